/- Layer record, the law's own items of a plan. -/
import Derived.Test.YtoiamjglklgcdaaGreatROwn
import Derived.Test.YtoiamjglklgcdaaGreatRItems
import Derived.Test.YtoiamjglklgcdaaGreatGridR
import Derived.Test.YtoiamjglklgcdaaGreatGridV
namespace Go.Proofs.YtoiamjglklgcdaaGreat
open Go.RowKit Go.Lib

theorem outL_take {o : List (Int × Int)} {k : Nat} (hk : k < nch o.length) : (outL o).take (k + 1) = (outL o).take k ++ [([111, UInt8.ofNat k], ptsB (chk o k))] := by
 have h : k < (outL o).length := by rw [outL_len]; exact hk
 have e : (outL o)[k] = ([111, UInt8.ofNat k], ptsB (chk o k)) := by simp only [outL, List.getElem_map, List.getElem_range]
 rw [List.take_succ_eq_append_getElem h, e]
theorem parL_one (p : Par) {hd key : List UInt8} {ol : List UInt8} (h : [112] ++ idK p.id = hd) (hk : hd ++ [0] = key) (hol : p.own.data.toList = ol) : (parL p).take 1 = [(key, ol)] := by
 subst h; subst hk; subst hol
 unfold parL
 simp
theorem parL_take {p : Par} {hd : List UInt8} (h : [112] ++ idK p.id = hd) {j : Nat} (hj : j < nch p.ring.length) : (parL p).take (j + 1 + 1) = (parL p).take (j + 1) ++ [(hd ++ [UInt8.ofNat (j + 1)], ptsB (chk p.ring j))] := by
 subst h
 have hl : j + 1 < (parL p).length := by unfold parL; simp; omega
 have e : (parL p)[j + 1] = (([112] ++ idK p.id) ++ [UInt8.ofNat (j + 1)], ptsB (chk p.ring j)) := by
  simp only [parL, List.getElem_cons_succ, List.getElem_map, List.getElem_range]
  simp
 rw [List.take_succ_eq_append_getElem hl, e]
theorem parL_len (p : Par) : (parL p).length = nch p.ring.length + 1 := by unfold parL; simp
theorem u8_nat (k : Nat) (_ : k < 256) : IntKind.u8.wrap (k : Int) = (((UInt8.ofNat k).toNat : Nat) : Int) := by
 rw [UInt8.toNat_ofNat', IntKind.wrap_u8']; omega
theorem RowI.base6 {α : Type} {T' : TypeId} {n : Nat} {enc : α → List Value} {w w1 W : World} {v : Value} {l : List α} (h : RowI w1 T' n enc v l W) (hb : Below w.heap.size w w1) : RowI w T' n enc v l W :=
 ⟨Below.trans hb (h.1.mono hb.size), h.2.1, h.2.2.imp id (fun ⟨g, cap, cur, e, hg, r⟩ => ⟨g, cap, cur, e, Nat.le_trans hb.size hg, r⟩)⟩
theorem RowI.keepT {α : Type} {T T' : TypeId} {n : Nat} {enc : α → List Value} {w W W' : World} {v : Value} {l : List α} (h : RowI w T' n enc v l W) (hb : Below w.heap.size w W') (hk : KeepT T W W') (ht : T' ≠ T) : RowI w T' n enc v l W' :=
 ⟨hb, h.2.1, h.2.2.imp id fun ⟨g, cap, cur, e, hg, hh, r⟩ => ⟨g, cap, cur, e, hg, hk.2 _ _ _ _ hh ht, r⟩⟩
theorem dput_id (W : World) (n : Int) (h : 0 ≤ n ∧ n ≤ 1073741824) : Calls Tryz.prog 41 #[.slice none 0 0, .int .i64 n, .int .i64 4] W fun e w' => ∃ v, e = .returned v ∧ BRow W v (idK n) w' := by
 have h1 := ref_PutNum (W := W) (A := none) (c := 0) (s := []) n 4 (fun h => absurd h (by simp)) (fun _ => rfl) (by simp) (by omega)
 have e : putB [] n 4 = idK n := by
  have := putB_nat [] n.toNat 4 (by decide) (by decide) (by omega)
  rw [show ((n.toNat : Nat) : Int) = n by omega] at this
  exact this
 rw [e] at h1
 exact h1
def KeyAt (Wr : World) (k2 : List UInt8) (s : Value) (wx : World) : Prop := ∃ A c, s = .slice A k2.length c ∧ (ByT wx A k2 ∧ k2.length ≤ c ∧ c ≤ maxLen ∧ (A = none → c = 0)) ∧ Below Wr.heap.size Wr wx
theorem conv_own2 (W : World) (s : ByteArray) (hs : s.size ≤ 2097152) : ∃ W1 cap, (convert 9 37 (.string s)).run Tryz.prog W = .ok (.slice (some ⟨W.heap.size, 0, none⟩) s.data.toList.length cap) W1 ∧ Below W.heap.size W W1 ∧
  ByT W1 (some ⟨W.heap.size, 0, none⟩) s.data.toList ∧ s.data.toList.length ≤ cap ∧ cap ≤ maxLen ∧ ∃ o, W1.heap[W.heap.size]? = some o := by
 have e : s.data.toList.length = s.size := Array.length_toList
 have hge : s.size ≤ grownCap W s.size 0 5 := Go.grownCap_ge _ _ _ _
 refine ⟨_, _, by rw [e]; exact Go.run_bytes_of_string (P := Tryz.prog) W 9 37 5 s Tryz.underlying9 Tryz.underlying37 Tryz.underlying5, ((Below.refl _ W).drew).alloc (Nat.le_refl _) _, fun h0 => ⟨W.heap.size, 0, _, _, rfl, heap_alloc_new W.drew _, fun i hi => ?_⟩, by rw [e]; exact hge, Go.grownCap_le_maxLen W s.size 0 5 (by unfold maxLen; omega), _, heap_alloc_new W.drew _⟩
 have hi2 : i < s.data.size := by simpa using hi
 rw [Nat.zero_add, Go.bytesRow_at s _ i hi2]
 simp [List.getD_eq_getElem?_getD, List.getElem?_eq_getElem hi2]

set_option maxRecDepth 100000 in
set_option maxHeartbeats 40000000 in
theorem items_any (o : List (Int × Int)) (Ao : Option Addr) (co : Nat) (l : List PV) (Ap : Option Addr) (cp : Nat) (hc : CheckP o l) (w : World) (h : PlanAt w o Ao co l Ap cp) :
  Calls Tryz.prog 14 #[.agg #[.slice Ao o.length co, .slice Ap l.length cp]] w fun e w' => ∃ v, e = .returned v ∧ ItRow w v (itmL o (l.map PV.par)) w' := by
 have HQ := (Hold.refl w).new #[.slice Ao o.length co, .slice Ap l.length cp] 26
 have hl64 := hc.1.2.2.1
 obtain ⟨-, ho1, ho2⟩ := normP_small hc.2.1
 have HPL := Lib.hid (fun W (hb : Below w.heap.size w W) => h.on hb)
 have HCP := Lib.hid hc
 have hnc := nch_le ho1
 have HCH := Lib.hid (fun (k : Nat) (hk : 16 * k < o.length) W (hb : Below w.heap.size w W) => dchunk_any o Ao co k hk (by omega) ho2 W (h.on hb).out)
 have HLN := Lib.hid (itmL_len hc)
 have HO1 := Lib.hid ho1
 clear h hc ho2
 go_enter Tryz.func14, Tryz.ntmps14
 go_upto_region 1 with (fail)
 generalize (World.alloc _ _) = W1 at HQ ⊢
 obtain ⟨g1, hg1⟩ : ∃ g, w.heap.size = g := ⟨_, rfl⟩
 have HG1 := Lib.hid hg1
 rw [hg1] at HQ ⊢
 clear hg1
 have HQ1 := Lib.hid HQ
 clear HQ
 go_wp2_with fail
 go_loopg [3, 4] (nch o.length) (fun g v i wr => ∃ k : Nat, k ≤ nch o.length ∧ g = nch o.length - k ∧ i = .int .i64 (k : Int) ∧ Hold w [(g1, #[.slice Ao o.length co, .slice Ap l.length cp], 26)] wr ∧ ItRow w v ((outL o).take k) wr)
 case atStart => exact ⟨0, Nat.zero_le _, rfl, rfl, HQ1.out, ItRow.nil HQ1.out.1⟩
 case round =>
  obtain ⟨k, hk, hgk, rfl, HB, HV⟩ := hrel
  have HGK := Lib.hid hgk
  clear hgk
  have w1 : IntKind.i64.wrap (16 * (k : Int)) = 16 * (k : Int) := IntWalk.i64_in _ (by omega)
  by_cases hlt : k < nch o.length
  ·have hkl : 16 * k < o.length := by unfold nch at hlt; omega
   have b1 : 16 * (k : Int) < (o.length : Int) := by omega
   have hk0 : IntKind.i64.wrap ((k : Int) + 1) = (k : Int) + 1 := IntWalk.i64_in _ (by omega)
   have hu := u8_nat k (by omega)
   obtain ⟨c0, c1⟩ := HB.pt (.head _)
   have hT := Lib.hid (outL_take hlt)
   have hvl : Hid (((outL o).take k).length + 1 ≤ 1000000) := by unfold Hid; rw [List.length_take, outL_len]; omega
   have hb1 : Below wr.heap.size wr (wr.alloc (Obj.cells #[.int .u8 111, .int .u8 (((UInt8.ofNat k).toNat : Nat) : Int)] 5)) := (Below.refl _ wr).alloc (Nat.le_refl _) _
   have HK1 := Lib.hid (BRow.lit (Below.refl wr.heap.size wr) #[.int .u8 111, .int .u8 (((UInt8.ofNat k).toNat : Nat) : Int)] [111, UInt8.ofNat k] rfl (by simp))
   have HB1 := Lib.hid hb1
   have HC1 := Lib.hid (HCH.out k hkl _ (HB.1.trans (hb1.mono HB.1.size)))
   have hN1 := HB.on hb1
   obtain ⟨d0, d1⟩ := hN1.pt (.head _)
   have HN1 := Lib.hid hN1
   have HV1 := Lib.hid (HV.on hb1)
   clear hb1 hN1 HB HV hkl
   generalize UInt8.ofNat k = kb at *
   generalize ptsB (chk o k) = cb at *
   go_wp2_with (first
    |(go_at_call 40; go_must ((with_reducible refine HC1.out.mono ?_); rintro e' W2 ⟨v2, rfl, hR2⟩; have HK2 := Lib.hid (HK1.out.on hR2.1); have HV2 := Lib.hid (HV1.out.on hR2.1); have HN2 := Lib.hid (HN1.out.on hR2.1); obtain ⟨A2, c2, rfl, hb2, hc2, hm2, hn2⟩ := hR2.byT; have HX2 := Lib.hid (lone_it HK2.out.bt.1 HK2.out.bt.2.1 HK2.out.bt.2.2.1 HK2.out.bt.2.2.2 hb2 hc2 hm2 hn2); clear hR2 hb2 hc2 hm2 hn2))
    |(at_builtin; go_must (refine append_it HV2.out _ HX2.out _ rfl hvl.out rfl _ _ rfl rfl _ rfl ?_; rintro v3 W3 hR3 hk3; have HN3 := Lib.hid (HN2.out.keepT hR3.below hk3 (by simp)); have HV3 := Lib.hid hR3; clear hR3 hk3)))
   go_roundg (nch o.length - (k + 1))
   case measure => have := HGK.out; omega
   case rel => exact ⟨k + 1, by omega, rfl, by go_num, HN3.out, by rw [hT.out]; exact HV3.out⟩
  ·obtain rfl : k = nch o.length := by omega
   have b1 : ¬ 16 * ((nch o.length : Nat) : Int) < (o.length : Int) := by unfold nch; omega
   obtain ⟨c0, c1⟩ := HB.pt (.head _)
   rw [List.take_of_length_le (by rw [outL_len]; exact Nat.le_refl _)] at HV
   have HB9 := Lib.hid HB
   have HV9 := Lib.hid HV
   clear HB HV
   go_wp2_with fail
   clear c0 c1 b1 w1 hlt hnc HQ1
   go_loopg [3, 5] l.length (fun g v i wr => ∃ k : Nat, k ≤ l.length ∧ g = l.length - k ∧ i = .int .i64 k ∧ Hold w [(g1, #[.slice Ao o.length co, .slice Ap l.length cp], 26)] wr ∧ ItRow w v (itmL o ((l.take k).map PV.par)) wr)
   case atStart => exact ⟨0, Nat.zero_le _, rfl, rfl, HB9.out, by rw [List.take_zero]; unfold itmL; simpa using HV9.out⟩
   case round =>
    obtain ⟨k, hk, hgk2, rfl, HB, HV⟩ := hrel
    have HGK2 := Lib.hid hgk2
    clear hgk2
    obtain ⟨c0, c1⟩ := HB.pt (.head _)
    by_cases hlt : k < l.length
    ·have hw := (HPL.out _ HB.1).prs
     obtain ⟨ad, hA, -, d0, d1, d2⟩ := hw.at hlt
     have hT := Lib.hid (itmL_take (o := o) hlt)
     have hbd : Hid ((itmL o ((l.take k).map PV.par)).length + (parL l[k].par).length + (edgL l[k].par).length + (celL l[k].par).length ≤ 14000) := by
      have h1 := itmL_le o l (k + 1)
      have h2 := HLN.out
      rw [hT.out] at h1
      simp only [List.length_append] at h1
      unfold Hid; omega
     obtain ⟨p1, p2, p3, p4, p5⟩ := parcel_ok HCP.out (List.getElem_mem hlt)
     have HPT := Lib.hid (fun W (hb : Below w.heap.size w W) => ((HPL.out W hb).prs.2 l[k] (List.getElem_mem hlt)).1)
     have b0 : (0 : Int) ≤ (k : Int) := by omega
     have b1 : (k : Int) < (l.length : Int) := by omega
     have hk0 : IntKind.i64.wrap ((k : Int) + 1) = (k : Int) + 1 := IntWalk.i64_in _ (by omega)
     have HN1 := HB.new #[.int .i64 (l[k]).par.id, .slice (l[k]).A (l[k]).par.ring.length (l[k]).cap, .string (l[k]).par.own] 58
     have hbx : Below wr.heap.size wr (wr.alloc (Obj.cells #[.int .i64 (l[k]).par.id, .slice (l[k]).A (l[k]).par.ring.length (l[k]).cap, .string (l[k]).par.own] 58 (0, 0))) := (Below.refl _ wr).alloc (Nat.le_refl _) _
     have HV1 := HV.on hbx
     have HP1 := Lib.hid p1
     have HP2 := Lib.hid p2
     have HP3 := Lib.hid p3
     have HP4 := Lib.hid p4
     have HP5 := Lib.hid p5
     have HEL := Lib.hid (fun j (hj : j < l[k].par.ring.length) => edgL_take (p := l[k].par) (k := j) hj)
     clear hw p1 p2 p3 p4 p5 HV hbx HB
     subst hA
     generalize itmL o ((l.take k).map PV.par) = L0 at *
     generalize hx : l[k] = x at *
     clear hx
     go_upto_region 10 with (fail)
     clear c0 c1 d0 d1 d2
     generalize (World.alloc _ _) = W2 at HN1 HV1 ⊢
     generalize wr.heap.size = g6 at HN1 ⊢
     have HIDP := Lib.hid (dput_id W2 x.par.id (id_lim HP1.out))
     have x0 := HN1.cell (.head _) 0
     simp only [List.getElem?_toArray, List.getElem?_cons_zero] at x0
     go_upto_region 11 with (go_at_call 41; go_must ((with_reducible refine HIDP.out.mono ?_); rintro e' W3 ⟨v3, rfl, hR3⟩; have HN3 := Lib.hid (HN1.on hR3.1); have HV3 := Lib.hid (HV1.on hR3.1); obtain ⟨A7, c7, rfl, hb7, hc7, hm7, hn7⟩ := hR3.byT; have HI7 := Lib.hid (And.intro hb7 (And.intro hc7 (And.intro hm7 hn7))); clear hR3 hb7 hc7 hm7 hn7))
     clear x0 HIDP HN1 HV1
     obtain ⟨⟨id, ps, own⟩, xA, xc⟩ := x
     dsimp only at *
     obtain ⟨idk, hidk⟩ : ∃ i, idK id = i := ⟨_, rfl⟩
     obtain ⟨hd, hhd⟩ : ∃ i, [112] ++ idK id = i := ⟨_, rfl⟩
     obtain ⟨key0, hkey0⟩ : ∃ i, hd ++ [(0 : UInt8)] = i := ⟨_, rfl⟩
     obtain ⟨ol, hol⟩ : ∃ i, Hid (own.data.toList = i) := ⟨_, Lib.hid rfl⟩
     have HP0 := Lib.hid (parL_one ⟨id, ps, own⟩ hhd hkey0 hol.out)
     have HPS := Lib.hid (fun j hj => parL_take (p := ⟨id, ps, own⟩) hhd (j := j) hj)
     have HPN : Hid ((parL ⟨id, ps, own⟩).length = nch ps.length + 1) := parL_len ⟨id, ps, own⟩
     have hosz : Hid (own.size ≤ 2097152) := by have := HP2.out; unfold Hid; omega
     have HIL : Hid (idk.length = 4) := by unfold Hid; rw [← hidk]; exact idK_len _
     rw [hidk] at hhd HI7 HEL ⊢
     have HHD := Lib.hid hhd
     have HK0 := Lib.hid hkey0
     have HIK := Lib.hid hidk
     clear hhd hkey0 hidk
     have HIB := Lib.hid (fun W (h : Below W3.heap.size W3 W) => (HI7.out.1.on h).bytes)
     have HIN := Lib.hid HI7.out.2.2.2
     have HSK : Hid (∀ W, Below w.heap.size w W → KeepT 39 W3 W → W.cell? ⟨g6, 2, none⟩ = some (.string own)) := fun W hb hk => by
      have := (HN3.out.keepT hb hk (by simp)).cell (.head _) 2
      simpa using this
     have HS := Lib.hid (fun W (h : Below W3.heap.size W3 W) => HSK.out W (HN3.out.1.trans (h.mono HN3.out.1.size)) (KeepT.below h))
     have hvl : Hid (L0.length + 1 ≤ 1000000) := by have := hbd.out; unfold Hid; omega
     generalize parL ⟨id, ps, own⟩ = pl at *
     go_cut [3] (fun s3 wx => ItRow w s3 (L0 ++ [(key0, ol)]) wx ∧ KeepT 39 W3 wx)
     case first =>
      refine wp_region_held_drew (S := fun W => W.cell? ⟨g6, 2, none⟩ = some (.string own)) (by kernel_rfl) (HS.out _ (Below.refl _ W3).drew) (fun hHeld => ?_)
      obtain ⟨u0, hu0⟩ : ∃ u, W3.drew = u := ⟨_, rfl⟩
      rw [hu0] at hHeld ⊢
      have Hu0 : Hid (Below W3.heap.size W3 u0) := by rw [← hu0]; exact (Below.refl _ W3).drew
      obtain ⟨su0, hsu0⟩ : ∃ s, Hid (u0.heap.size = s) := ⟨_, Lib.hid rfl⟩
      clear hu0
      refine tZ 0 ?_; refine tZ 2 ?_; refine tZ 6 ?_; refine tZ 7 ?_
      refine wpAnyH_ready (rs := [1, 4, 8]) (by decide +kernel) (by simp) ?_
      refine AllReadyH.cons rfl (fun K hK => ?_) (AllReadyH.cons rfl (fun K hK => ?_) (AllReadyH.cons rfl (fun K hK => ?_) AllReadyH.nil))
      ·skip
       (try simp only [jA, jB, jC])
       go_simp
       obtain ⟨u1, eu1⟩ : ∃ V, u0.alloc (Obj.cells #[.int .u8 112] 5) = V := ⟨_, rfl⟩
       have hR1 := BRow.lit Hu0.out #[.int .u8 112] [(112 : UInt8)] rfl (by simp)
       rw [eu1] at hR1
       have hu1 := bZ eu1
       obtain ⟨su1, hsu1⟩ := sZ u1.heap.size
       have Nu1 := lZ eu1 hsu0 hsu1
       rw [eu1]
       rw [hsu0.out] at hR1 ⊢
       have F1 := fZ su0 ([(112 : UInt8)]).length ([(112 : UInt8)]).length
       clear eu1
       have Hu1 := Lib.hid (Hu0.out.trans (hu1.mono Hu0.out.size))
       clear hu1
       refine hK.out _ _ (HS.out _ Hu1.out) (fun hHeld => ?_)
       clear hK K
       (try simp only [Act.put, jA, jB, jC, jD, jE, jF])
       refine wpAnyH_ready (rs := [3, 4, 8]) (by decide +kernel) (by simp) ?_
       refine AllReadyH.cons rfl (fun K hK => ?_) (AllReadyH.cons rfl (fun K hK => ?_) (AllReadyH.cons rfl (fun K hK => ?_) AllReadyH.nil))
       ·skip
        refine step_app hR1 _ _ _ (HIB.out _ Hu1.out) HIN.out (by have := HIL.out; simp; omega) rfl _ _ rfl rfl rfl ?_
        rintro v3 u2 hR3 hg3 ho3
        replace hR3 : BRow W3 v3 hd u2 := by have e := HHD.out; rw [e] at hR3; exact hR3
        obtain ⟨su2, hsu2⟩ := sZ u2.heap.size
        have Nu2 := nZ hg3.size hsu1 hsu2
        rw [hsu1.out] at ho3
        have F3 := Lib.hid (app_block ho3 F1.out (fun k h => Nat.lt_of_lt_of_eq (hR3.2.lt k h).2 hsu2.out))
        clear hR1
        obtain ⟨A3, c3, rfl, -⟩ := hR3.byT
        have Hu2 := Lib.hid hR3.1
        clear hg3 ho3
        refine hK.out _ _ (HS.out _ Hu2.out) (fun hHeld => ?_)
        clear hK K
        (try simp only [Act.put, jA, jB, jC, jD, jE, jF])
        refine wpAnyH_ready (rs := [4, 8]) (by decide +kernel) (by simp) ?_
        refine AllReadyH.cons rfl (fun K hK => ?_) (AllReadyH.cons rfl (fun K hK => ?_) AllReadyH.nil)
        ·skip
         (try simp only [jA, jB, jC])
         go_simp
         obtain ⟨u3, eu3⟩ : ∃ V, u2.alloc (Obj.cells #[.int .u8 0] 5) = V := ⟨_, rfl⟩
         have hR4 := BRow.lit Hu2.out #[.int .u8 0] [(0 : UInt8)] rfl (by simp)
         rw [eu3] at hR4
         have hu3 := bZ eu3
         obtain ⟨su3, hsu3⟩ := sZ u3.heap.size
         have Nu3 := lZ eu3 hsu2 hsu3
         rw [eu3]
         rw [hsu2.out] at hR4 ⊢
         have F4 := fZ su2 ([(0 : UInt8)]).length ([(0 : UInt8)]).length
         clear eu3
         have Hu3 := Lib.hid (Hu2.out.trans (hu3.mono Hu2.out.size))
         replace hR3 := hR3.on hu3
         clear hu3
         refine hK.out _ _ (HS.out _ Hu3.out) (fun hHeld => ?_)
         clear hK K
         (try simp only [Act.put, jA, jB, jC, jD, jE, jF])
         refine wpAnyH_ready (rs := [5, 8]) (by decide +kernel) (by simp) ?_
         refine AllReadyH.cons rfl (fun K hK => ?_) (AllReadyH.cons rfl (fun K hK => ?_) AllReadyH.nil)
         ·skip
          refine step_app hR3 _ _ _ hR4.bytesAt hR4.bt.2.2.2 (by have := congrArg List.length HHD.out; have h2 := HIL.out; simp at this ⊢; omega) rfl _ _ rfl rfl rfl ?_
          rintro v5 u4 hR5 hg5 ho5
          replace hR5 : BRow W3 v5 key0 u4 := by have e := HK0.out; rw [e] at hR5; exact hR5
          obtain ⟨su4, hsu4⟩ := sZ u4.heap.size
          have Nu4 := nZ hg5.size hsu3 hsu4
          rw [hsu3.out] at ho5
          have F5 := Lib.hid (app_block ho5 F3.out (fun k h => Nat.lt_of_lt_of_eq (hR5.2.lt k h).2 hsu4.out))
          clear hR3 hR4
          obtain ⟨A5, c5, rfl, -⟩ := hR5.byT
          have Hu4 := Lib.hid hR5.1
          clear hg5 ho5
          refine hK.out _ _ (HS.out _ Hu4.out) (fun hHeld => ?_)
          clear hK K
          (try simp only [Act.put, jA, jB, jC, jD, jE, jF])
          refine rZ 8 (fun K hK => ?_)
          obtain ⟨u5, cc8, hrun, hbb8, hB8, hcc8, hmm8, ob8, hx8⟩ := conv_own2 u4 own hosz.out
          obtain ⟨q8, eq8⟩ : ∃ q, Hid (su4 = q) := ⟨_, Lib.hid rfl⟩
          rw [hsu4.out, eq8.out] at hrun hB8 hx8
          rw [hol.out] at hrun hB8 hcc8
          (try simp only [jA, jB, jC])
          go_simp
          clear hrun
          have hu5 : Below u4.heap.size u4 u5 := hbb8
          obtain ⟨su5, hsu5⟩ := sZ u5.heap.size
          have Nu5 : Hid (su4 < su5) := by have h1 := blk_lt hx8; rw [hsu5.out, ← eq8.out] at h1; exact h1
          have F8 := gZ q8
          have Hu5 := Lib.hid (Hu4.out.trans (hu5.mono Hu4.out.size))
          replace hR5 := hR5.on hu5
          clear hu5
          refine hK.out _ _ (HS.out _ Hu5.out) (fun hHeld => ?_)
          clear hK K
          (try simp only [Act.put, jA, jB, jC, jD, jE, jF])
          refine tZ 9 ?_
          refine rZ 10 (fun K hK => ?_)
          (try simp only [jA, jB, jC])
          go_simp
          obtain ⟨u6, eu6⟩ : ∃ V, u5.alloc (Obj.cells #[.slice A5 key0.length c5, .slice (some ⟨q8, 0, none⟩) ol.length cc8] 39) = V := ⟨_, rfl⟩
          have hu6 := bZ eu6
          have hI10 := heap_alloc_new u5 (Obj.cells #[.slice A5 key0.length c5, .slice (some ⟨q8, 0, none⟩) ol.length cc8] 39 (0, 0))
          rw [eu6] at hI10 ⊢
          obtain ⟨su6, hsu6⟩ := sZ u6.heap.size
          clear eu6
          have Hu6 := Lib.hid (Hu5.out.trans (hu6.mono Hu5.out.size))
          replace hR5 := hR5.on hu6
          replace hB8 := hB8.on hu6
          clear hu6
          refine hK.out _ _ (HS.out _ Hu6.out) (fun hHeld => ?_)
          clear hK K
          (try simp only [Act.put, jA, jB, jC, jD, jE, jF])
          refine rZ 11 (fun K hK => ?_)
          refine step_appI (HV3.out.on Hu6.out) ⟨key0, A5, c5, ol, some ⟨q8, 0, none⟩, cc8⟩ (lone_it hR5.bt.1 hR5.bt.2.1 hR5.bt.2.2.1 hR5.bt.2.2.2 hB8 hcc8 hmm8 (fun e => by cases e)) hI10 rfl hvl.out rfl _ _ rfl rfl _ rfl ?_; rintro v11 u7 hrow11 hk11; have hkk11 := (KeepT.below Hu6.out).trans hk11
          refine hK.out _ _ (HSK.out _ hrow11.below hkk11) (fun hHeld => ?_)
          clear hK K
          (try simp only [Act.put, jA, jB, jC, jD, jE, jF])
          refine tZ 12 ?_
          refine wpAnyH_done (by decide +kernel) ?_ _
          clear hHeld
          go_wp2_with fail
          go_meet
          exact ⟨hrow11, hkk11⟩
         ·skip
          obtain ⟨u8, cc8, hrun, hbb8, hB8, hcc8, hmm8, ob8, hx8⟩ := conv_own2 u3 own hosz.out
          obtain ⟨q8, eq8⟩ : ∃ q, Hid (su3 = q) := ⟨_, Lib.hid rfl⟩
          rw [hsu3.out, eq8.out] at hrun hB8 hx8
          rw [hol.out] at hrun hB8 hcc8
          (try simp only [jA, jB, jC])
          go_simp
          clear hrun
          have hu8 : Below u3.heap.size u3 u8 := hbb8
          obtain ⟨su8, hsu8⟩ := sZ u8.heap.size
          have Nu8 : Hid (su3 < su8) := by have h1 := blk_lt hx8; rw [hsu8.out, ← eq8.out] at h1; exact h1
          have F8 := gZ q8
          have Hu8 := Lib.hid (Hu3.out.trans (hu8.mono Hu3.out.size))
          replace hR3 := hR3.on hu8
          replace hR4 := hR4.on hu8
          clear hu8
          refine hK.out _ _ (HS.out _ Hu8.out) (fun hHeld => ?_)
          clear hK K
          (try simp only [Act.put, jA, jB, jC, jD, jE, jF])
          refine rZ 5 (fun K hK => ?_)
          refine step_app hR3 _ _ _ hR4.bytesAt hR4.bt.2.2.2 (by have := congrArg List.length HHD.out; have h2 := HIL.out; simp at this ⊢; omega) rfl _ _ rfl rfl rfl ?_
          rintro v5 u9 hR5 hg5 ho5
          replace hR5 : BRow W3 v5 key0 u9 := by have e := HK0.out; rw [e] at hR5; exact hR5
          obtain ⟨su9, hsu9⟩ := sZ u9.heap.size
          have Nu9 := nZ hg5.size hsu8 hsu9
          rw [hsu8.out] at ho5
          have F5 := Lib.hid (app_block ho5 F3.out (fun k h => Nat.lt_of_lt_of_eq (hR5.2.lt k h).2 hsu9.out))
          replace hB8 := hB8.grow hg5 (fun g o e e2 => by have h1 := F8.out g o e; have h2 := F3.out g e2; (try dsimp only at h1 h2); have := Nu1.out; have := Nu2.out; have := Nu3.out; have := Nu8.out; have := eq8.out; have := Nu9.out; omega)
          clear hR3 hR4
          obtain ⟨A5, c5, rfl, -⟩ := hR5.byT
          have Hu9 := Lib.hid hR5.1
          clear hg5 ho5
          refine hK.out _ _ (HS.out _ Hu9.out) (fun hHeld => ?_)
          clear hK K
          (try simp only [Act.put, jA, jB, jC, jD, jE, jF])
          refine tZ 9 ?_
          refine rZ 10 (fun K hK => ?_)
          (try simp only [jA, jB, jC])
          go_simp
          obtain ⟨u10, eu10⟩ : ∃ V, u9.alloc (Obj.cells #[.slice A5 key0.length c5, .slice (some ⟨q8, 0, none⟩) ol.length cc8] 39) = V := ⟨_, rfl⟩
          have hu10 := bZ eu10
          have hI10 := heap_alloc_new u9 (Obj.cells #[.slice A5 key0.length c5, .slice (some ⟨q8, 0, none⟩) ol.length cc8] 39 (0, 0))
          rw [eu10] at hI10 ⊢
          obtain ⟨su10, hsu10⟩ := sZ u10.heap.size
          clear eu10
          have Hu10 := Lib.hid (Hu9.out.trans (hu10.mono Hu9.out.size))
          replace hR5 := hR5.on hu10
          replace hB8 := hB8.on hu10
          clear hu10
          refine hK.out _ _ (HS.out _ Hu10.out) (fun hHeld => ?_)
          clear hK K
          (try simp only [Act.put, jA, jB, jC, jD, jE, jF])
          refine rZ 11 (fun K hK => ?_)
          refine step_appI (HV3.out.on Hu10.out) ⟨key0, A5, c5, ol, some ⟨q8, 0, none⟩, cc8⟩ (lone_it hR5.bt.1 hR5.bt.2.1 hR5.bt.2.2.1 hR5.bt.2.2.2 hB8 hcc8 hmm8 (fun e => by cases e)) hI10 rfl hvl.out rfl _ _ rfl rfl _ rfl ?_; rintro v11 u11 hrow11 hk11; have hkk11 := (KeepT.below Hu10.out).trans hk11
          refine hK.out _ _ (HSK.out _ hrow11.below hkk11) (fun hHeld => ?_)
          clear hK K
          (try simp only [Act.put, jA, jB, jC, jD, jE, jF])
          refine tZ 12 ?_
          refine wpAnyH_done (by decide +kernel) ?_ _
          clear hHeld
          go_wp2_with fail
          go_meet
          exact ⟨hrow11, hkk11⟩
        ·skip
         obtain ⟨u12, cc8, hrun, hbb8, hB8, hcc8, hmm8, ob8, hx8⟩ := conv_own2 u2 own hosz.out
         obtain ⟨q8, eq8⟩ : ∃ q, Hid (su2 = q) := ⟨_, Lib.hid rfl⟩
         rw [hsu2.out, eq8.out] at hrun hB8 hx8
         rw [hol.out] at hrun hB8 hcc8
         (try simp only [jA, jB, jC])
         go_simp
         clear hrun
         have hu12 : Below u2.heap.size u2 u12 := hbb8
         obtain ⟨su12, hsu12⟩ := sZ u12.heap.size
         have Nu12 : Hid (su2 < su12) := by have h1 := blk_lt hx8; rw [hsu12.out, ← eq8.out] at h1; exact h1
         have F8 := gZ q8
         have Hu12 := Lib.hid (Hu2.out.trans (hu12.mono Hu2.out.size))
         replace hR3 := hR3.on hu12
         clear hu12
         refine hK.out _ _ (HS.out _ Hu12.out) (fun hHeld => ?_)
         clear hK K
         (try simp only [Act.put, jA, jB, jC, jD, jE, jF])
         refine rZ 4 (fun K hK => ?_)
         (try simp only [jA, jB, jC])
         go_simp
         obtain ⟨u13, eu13⟩ : ∃ V, u12.alloc (Obj.cells #[.int .u8 0] 5) = V := ⟨_, rfl⟩
         have hR4 := BRow.lit Hu12.out #[.int .u8 0] [(0 : UInt8)] rfl (by simp)
         rw [eu13] at hR4
         have hu13 := bZ eu13
         obtain ⟨su13, hsu13⟩ := sZ u13.heap.size
         have Nu13 := lZ eu13 hsu12 hsu13
         rw [eu13]
         rw [hsu12.out] at hR4 ⊢
         have F4 := fZ su12 ([(0 : UInt8)]).length ([(0 : UInt8)]).length
         clear eu13
         have Hu13 := Lib.hid (Hu12.out.trans (hu13.mono Hu12.out.size))
         replace hR3 := hR3.on hu13
         replace hB8 := hB8.on hu13
         clear hu13
         refine hK.out _ _ (HS.out _ Hu13.out) (fun hHeld => ?_)
         clear hK K
         (try simp only [Act.put, jA, jB, jC, jD, jE, jF])
         refine rZ 5 (fun K hK => ?_)
         refine step_app hR3 _ _ _ hR4.bytesAt hR4.bt.2.2.2 (by have := congrArg List.length HHD.out; have h2 := HIL.out; simp at this ⊢; omega) rfl _ _ rfl rfl rfl ?_
         rintro v5 u14 hR5 hg5 ho5
         replace hR5 : BRow W3 v5 key0 u14 := by have e := HK0.out; rw [e] at hR5; exact hR5
         obtain ⟨su14, hsu14⟩ := sZ u14.heap.size
         have Nu14 := nZ hg5.size hsu13 hsu14
         rw [hsu13.out] at ho5
         have F5 := Lib.hid (app_block ho5 F3.out (fun k h => Nat.lt_of_lt_of_eq (hR5.2.lt k h).2 hsu14.out))
         replace hB8 := hB8.grow hg5 (fun g o e e2 => by have h1 := F8.out g o e; have h2 := F3.out g e2; (try dsimp only at h1 h2); have := Nu1.out; have := Nu2.out; have := Nu12.out; have := eq8.out; have := Nu13.out; have := Nu14.out; omega)
         clear hR3 hR4
         obtain ⟨A5, c5, rfl, -⟩ := hR5.byT
         have Hu14 := Lib.hid hR5.1
         clear hg5 ho5
         refine hK.out _ _ (HS.out _ Hu14.out) (fun hHeld => ?_)
         clear hK K
         (try simp only [Act.put, jA, jB, jC, jD, jE, jF])
         refine tZ 9 ?_
         refine rZ 10 (fun K hK => ?_)
         (try simp only [jA, jB, jC])
         go_simp
         obtain ⟨u15, eu15⟩ : ∃ V, u14.alloc (Obj.cells #[.slice A5 key0.length c5, .slice (some ⟨q8, 0, none⟩) ol.length cc8] 39) = V := ⟨_, rfl⟩
         have hu15 := bZ eu15
         have hI10 := heap_alloc_new u14 (Obj.cells #[.slice A5 key0.length c5, .slice (some ⟨q8, 0, none⟩) ol.length cc8] 39 (0, 0))
         rw [eu15] at hI10 ⊢
         obtain ⟨su15, hsu15⟩ := sZ u15.heap.size
         clear eu15
         have Hu15 := Lib.hid (Hu14.out.trans (hu15.mono Hu14.out.size))
         replace hR5 := hR5.on hu15
         replace hB8 := hB8.on hu15
         clear hu15
         refine hK.out _ _ (HS.out _ Hu15.out) (fun hHeld => ?_)
         clear hK K
         (try simp only [Act.put, jA, jB, jC, jD, jE, jF])
         refine rZ 11 (fun K hK => ?_)
         refine step_appI (HV3.out.on Hu15.out) ⟨key0, A5, c5, ol, some ⟨q8, 0, none⟩, cc8⟩ (lone_it hR5.bt.1 hR5.bt.2.1 hR5.bt.2.2.1 hR5.bt.2.2.2 hB8 hcc8 hmm8 (fun e => by cases e)) hI10 rfl hvl.out rfl _ _ rfl rfl _ rfl ?_; rintro v11 u16 hrow11 hk11; have hkk11 := (KeepT.below Hu15.out).trans hk11
         refine hK.out _ _ (HSK.out _ hrow11.below hkk11) (fun hHeld => ?_)
         clear hK K
         (try simp only [Act.put, jA, jB, jC, jD, jE, jF])
         refine tZ 12 ?_
         refine wpAnyH_done (by decide +kernel) ?_ _
         clear hHeld
         go_wp2_with fail
         go_meet
         exact ⟨hrow11, hkk11⟩
       ·skip
        (try simp only [jA, jB, jC])
        go_simp
        obtain ⟨u17, eu17⟩ : ∃ V, u1.alloc (Obj.cells #[.int .u8 0] 5) = V := ⟨_, rfl⟩
        have hR4 := BRow.lit Hu1.out #[.int .u8 0] [(0 : UInt8)] rfl (by simp)
        rw [eu17] at hR4
        have hu17 := bZ eu17
        obtain ⟨su17, hsu17⟩ := sZ u17.heap.size
        have Nu17 := lZ eu17 hsu1 hsu17
        rw [eu17]
        rw [hsu1.out] at hR4 ⊢
        have F4 := fZ su1 ([(0 : UInt8)]).length ([(0 : UInt8)]).length
        clear eu17
        have Hu17 := Lib.hid (Hu1.out.trans (hu17.mono Hu1.out.size))
        replace hR1 := hR1.on hu17
        clear hu17
        refine hK.out _ _ (HS.out _ Hu17.out) (fun hHeld => ?_)
        clear hK K
        (try simp only [Act.put, jA, jB, jC, jD, jE, jF])
        refine wpAnyH_ready (rs := [3, 8]) (by decide +kernel) (by simp) ?_
        refine AllReadyH.cons rfl (fun K hK => ?_) (AllReadyH.cons rfl (fun K hK => ?_) AllReadyH.nil)
        ·skip
         refine step_app hR1 _ _ _ (HIB.out _ Hu17.out) HIN.out (by have := HIL.out; simp; omega) rfl _ _ rfl rfl rfl ?_
         rintro v3 u18 hR3 hg3 ho3
         replace hR3 : BRow W3 v3 hd u18 := by have e := HHD.out; rw [e] at hR3; exact hR3
         obtain ⟨su18, hsu18⟩ := sZ u18.heap.size
         have Nu18 := nZ hg3.size hsu17 hsu18
         rw [hsu17.out] at ho3
         have F3 := Lib.hid (app_block ho3 F1.out (fun k h => Nat.lt_of_lt_of_eq (hR3.2.lt k h).2 hsu18.out))
         replace hR4 := hR4.kept hg3 hR3.1 (apartO F4.out F1.out (fun k h1 h2 => by (try dsimp only at h1 h2); have := Nu1.out; have := Nu17.out; have := Nu18.out; omega))
         clear hR1
         obtain ⟨A3, c3, rfl, -⟩ := hR3.byT
         have Hu18 := Lib.hid hR3.1
         clear hg3 ho3
         refine hK.out _ _ (HS.out _ Hu18.out) (fun hHeld => ?_)
         clear hK K
         (try simp only [Act.put, jA, jB, jC, jD, jE, jF])
         refine wpAnyH_ready (rs := [5, 8]) (by decide +kernel) (by simp) ?_
         refine AllReadyH.cons rfl (fun K hK => ?_) (AllReadyH.cons rfl (fun K hK => ?_) AllReadyH.nil)
         ·skip
          refine step_app hR3 _ _ _ hR4.bytesAt hR4.bt.2.2.2 (by have := congrArg List.length HHD.out; have h2 := HIL.out; simp at this ⊢; omega) rfl _ _ rfl rfl rfl ?_
          rintro v5 u19 hR5 hg5 ho5
          replace hR5 : BRow W3 v5 key0 u19 := by have e := HK0.out; rw [e] at hR5; exact hR5
          obtain ⟨su19, hsu19⟩ := sZ u19.heap.size
          have Nu19 := nZ hg5.size hsu18 hsu19
          rw [hsu18.out] at ho5
          have F5 := Lib.hid (app_block ho5 F3.out (fun k h => Nat.lt_of_lt_of_eq (hR5.2.lt k h).2 hsu19.out))
          clear hR3 hR4
          obtain ⟨A5, c5, rfl, -⟩ := hR5.byT
          have Hu19 := Lib.hid hR5.1
          clear hg5 ho5
          refine hK.out _ _ (HS.out _ Hu19.out) (fun hHeld => ?_)
          clear hK K
          (try simp only [Act.put, jA, jB, jC, jD, jE, jF])
          refine rZ 8 (fun K hK => ?_)
          obtain ⟨u20, cc8, hrun, hbb8, hB8, hcc8, hmm8, ob8, hx8⟩ := conv_own2 u19 own hosz.out
          obtain ⟨q8, eq8⟩ : ∃ q, Hid (su19 = q) := ⟨_, Lib.hid rfl⟩
          rw [hsu19.out, eq8.out] at hrun hB8 hx8
          rw [hol.out] at hrun hB8 hcc8
          (try simp only [jA, jB, jC])
          go_simp
          clear hrun
          have hu20 : Below u19.heap.size u19 u20 := hbb8
          obtain ⟨su20, hsu20⟩ := sZ u20.heap.size
          have Nu20 : Hid (su19 < su20) := by have h1 := blk_lt hx8; rw [hsu20.out, ← eq8.out] at h1; exact h1
          have F8 := gZ q8
          have Hu20 := Lib.hid (Hu19.out.trans (hu20.mono Hu19.out.size))
          replace hR5 := hR5.on hu20
          clear hu20
          refine hK.out _ _ (HS.out _ Hu20.out) (fun hHeld => ?_)
          clear hK K
          (try simp only [Act.put, jA, jB, jC, jD, jE, jF])
          refine tZ 9 ?_
          refine rZ 10 (fun K hK => ?_)
          (try simp only [jA, jB, jC])
          go_simp
          obtain ⟨u21, eu21⟩ : ∃ V, u20.alloc (Obj.cells #[.slice A5 key0.length c5, .slice (some ⟨q8, 0, none⟩) ol.length cc8] 39) = V := ⟨_, rfl⟩
          have hu21 := bZ eu21
          have hI10 := heap_alloc_new u20 (Obj.cells #[.slice A5 key0.length c5, .slice (some ⟨q8, 0, none⟩) ol.length cc8] 39 (0, 0))
          rw [eu21] at hI10 ⊢
          obtain ⟨su21, hsu21⟩ := sZ u21.heap.size
          clear eu21
          have Hu21 := Lib.hid (Hu20.out.trans (hu21.mono Hu20.out.size))
          replace hR5 := hR5.on hu21
          replace hB8 := hB8.on hu21
          clear hu21
          refine hK.out _ _ (HS.out _ Hu21.out) (fun hHeld => ?_)
          clear hK K
          (try simp only [Act.put, jA, jB, jC, jD, jE, jF])
          refine rZ 11 (fun K hK => ?_)
          refine step_appI (HV3.out.on Hu21.out) ⟨key0, A5, c5, ol, some ⟨q8, 0, none⟩, cc8⟩ (lone_it hR5.bt.1 hR5.bt.2.1 hR5.bt.2.2.1 hR5.bt.2.2.2 hB8 hcc8 hmm8 (fun e => by cases e)) hI10 rfl hvl.out rfl _ _ rfl rfl _ rfl ?_; rintro v11 u22 hrow11 hk11; have hkk11 := (KeepT.below Hu21.out).trans hk11
          refine hK.out _ _ (HSK.out _ hrow11.below hkk11) (fun hHeld => ?_)
          clear hK K
          (try simp only [Act.put, jA, jB, jC, jD, jE, jF])
          refine tZ 12 ?_
          refine wpAnyH_done (by decide +kernel) ?_ _
          clear hHeld
          go_wp2_with fail
          go_meet
          exact ⟨hrow11, hkk11⟩
         ·skip
          obtain ⟨u23, cc8, hrun, hbb8, hB8, hcc8, hmm8, ob8, hx8⟩ := conv_own2 u18 own hosz.out
          obtain ⟨q8, eq8⟩ : ∃ q, Hid (su18 = q) := ⟨_, Lib.hid rfl⟩
          rw [hsu18.out, eq8.out] at hrun hB8 hx8
          rw [hol.out] at hrun hB8 hcc8
          (try simp only [jA, jB, jC])
          go_simp
          clear hrun
          have hu23 : Below u18.heap.size u18 u23 := hbb8
          obtain ⟨su23, hsu23⟩ := sZ u23.heap.size
          have Nu23 : Hid (su18 < su23) := by have h1 := blk_lt hx8; rw [hsu23.out, ← eq8.out] at h1; exact h1
          have F8 := gZ q8
          have Hu23 := Lib.hid (Hu18.out.trans (hu23.mono Hu18.out.size))
          replace hR4 := hR4.on hu23
          replace hR3 := hR3.on hu23
          clear hu23
          refine hK.out _ _ (HS.out _ Hu23.out) (fun hHeld => ?_)
          clear hK K
          (try simp only [Act.put, jA, jB, jC, jD, jE, jF])
          refine rZ 5 (fun K hK => ?_)
          refine step_app hR3 _ _ _ hR4.bytesAt hR4.bt.2.2.2 (by have := congrArg List.length HHD.out; have h2 := HIL.out; simp at this ⊢; omega) rfl _ _ rfl rfl rfl ?_
          rintro v5 u24 hR5 hg5 ho5
          replace hR5 : BRow W3 v5 key0 u24 := by have e := HK0.out; rw [e] at hR5; exact hR5
          obtain ⟨su24, hsu24⟩ := sZ u24.heap.size
          have Nu24 := nZ hg5.size hsu23 hsu24
          rw [hsu23.out] at ho5
          have F5 := Lib.hid (app_block ho5 F3.out (fun k h => Nat.lt_of_lt_of_eq (hR5.2.lt k h).2 hsu24.out))
          replace hB8 := hB8.grow hg5 (fun g o e e2 => by have h1 := F8.out g o e; have h2 := F3.out g e2; (try dsimp only at h1 h2); have := Nu1.out; have := Nu17.out; have := Nu18.out; have := Nu23.out; have := eq8.out; have := Nu24.out; omega)
          clear hR3 hR4
          obtain ⟨A5, c5, rfl, -⟩ := hR5.byT
          have Hu24 := Lib.hid hR5.1
          clear hg5 ho5
          refine hK.out _ _ (HS.out _ Hu24.out) (fun hHeld => ?_)
          clear hK K
          (try simp only [Act.put, jA, jB, jC, jD, jE, jF])
          refine tZ 9 ?_
          refine rZ 10 (fun K hK => ?_)
          (try simp only [jA, jB, jC])
          go_simp
          obtain ⟨u25, eu25⟩ : ∃ V, u24.alloc (Obj.cells #[.slice A5 key0.length c5, .slice (some ⟨q8, 0, none⟩) ol.length cc8] 39) = V := ⟨_, rfl⟩
          have hu25 := bZ eu25
          have hI10 := heap_alloc_new u24 (Obj.cells #[.slice A5 key0.length c5, .slice (some ⟨q8, 0, none⟩) ol.length cc8] 39 (0, 0))
          rw [eu25] at hI10 ⊢
          obtain ⟨su25, hsu25⟩ := sZ u25.heap.size
          clear eu25
          have Hu25 := Lib.hid (Hu24.out.trans (hu25.mono Hu24.out.size))
          replace hR5 := hR5.on hu25
          replace hB8 := hB8.on hu25
          clear hu25
          refine hK.out _ _ (HS.out _ Hu25.out) (fun hHeld => ?_)
          clear hK K
          (try simp only [Act.put, jA, jB, jC, jD, jE, jF])
          refine rZ 11 (fun K hK => ?_)
          refine step_appI (HV3.out.on Hu25.out) ⟨key0, A5, c5, ol, some ⟨q8, 0, none⟩, cc8⟩ (lone_it hR5.bt.1 hR5.bt.2.1 hR5.bt.2.2.1 hR5.bt.2.2.2 hB8 hcc8 hmm8 (fun e => by cases e)) hI10 rfl hvl.out rfl _ _ rfl rfl _ rfl ?_; rintro v11 u26 hrow11 hk11; have hkk11 := (KeepT.below Hu25.out).trans hk11
          refine hK.out _ _ (HSK.out _ hrow11.below hkk11) (fun hHeld => ?_)
          clear hK K
          (try simp only [Act.put, jA, jB, jC, jD, jE, jF])
          refine tZ 12 ?_
          refine wpAnyH_done (by decide +kernel) ?_ _
          clear hHeld
          go_wp2_with fail
          go_meet
          exact ⟨hrow11, hkk11⟩
        ·skip
         obtain ⟨u27, cc8, hrun, hbb8, hB8, hcc8, hmm8, ob8, hx8⟩ := conv_own2 u17 own hosz.out
         obtain ⟨q8, eq8⟩ : ∃ q, Hid (su17 = q) := ⟨_, Lib.hid rfl⟩
         rw [hsu17.out, eq8.out] at hrun hB8 hx8
         rw [hol.out] at hrun hB8 hcc8
         (try simp only [jA, jB, jC])
         go_simp
         clear hrun
         have hu27 : Below u17.heap.size u17 u27 := hbb8
         obtain ⟨su27, hsu27⟩ := sZ u27.heap.size
         have Nu27 : Hid (su17 < su27) := by have h1 := blk_lt hx8; rw [hsu27.out, ← eq8.out] at h1; exact h1
         have F8 := gZ q8
         have Hu27 := Lib.hid (Hu17.out.trans (hu27.mono Hu17.out.size))
         replace hR1 := hR1.on hu27
         replace hR4 := hR4.on hu27
         clear hu27
         refine hK.out _ _ (HS.out _ Hu27.out) (fun hHeld => ?_)
         clear hK K
         (try simp only [Act.put, jA, jB, jC, jD, jE, jF])
         refine rZ 3 (fun K hK => ?_)
         refine step_app hR1 _ _ _ (HIB.out _ Hu27.out) HIN.out (by have := HIL.out; simp; omega) rfl _ _ rfl rfl rfl ?_
         rintro v3 u28 hR3 hg3 ho3
         replace hR3 : BRow W3 v3 hd u28 := by have e := HHD.out; rw [e] at hR3; exact hR3
         obtain ⟨su28, hsu28⟩ := sZ u28.heap.size
         have Nu28 := nZ hg3.size hsu27 hsu28
         rw [hsu27.out] at ho3
         have F3 := Lib.hid (app_block ho3 F1.out (fun k h => Nat.lt_of_lt_of_eq (hR3.2.lt k h).2 hsu28.out))
         replace hR4 := hR4.kept hg3 hR3.1 (apartO F4.out F1.out (fun k h1 h2 => by (try dsimp only at h1 h2); have := Nu1.out; have := Nu17.out; have := Nu27.out; have := eq8.out; have := Nu28.out; omega))
         replace hB8 := hB8.grow hg3 (fun g o e e2 => by have h1 := F8.out g o e; have h2 := F1.out g e2; (try dsimp only at h1 h2); have := Nu1.out; have := Nu17.out; have := Nu27.out; have := eq8.out; have := Nu28.out; omega)
         clear hR1
         obtain ⟨A3, c3, rfl, -⟩ := hR3.byT
         have Hu28 := Lib.hid hR3.1
         clear hg3 ho3
         refine hK.out _ _ (HS.out _ Hu28.out) (fun hHeld => ?_)
         clear hK K
         (try simp only [Act.put, jA, jB, jC, jD, jE, jF])
         refine rZ 5 (fun K hK => ?_)
         refine step_app hR3 _ _ _ hR4.bytesAt hR4.bt.2.2.2 (by have := congrArg List.length HHD.out; have h2 := HIL.out; simp at this ⊢; omega) rfl _ _ rfl rfl rfl ?_
         rintro v5 u29 hR5 hg5 ho5
         replace hR5 : BRow W3 v5 key0 u29 := by have e := HK0.out; rw [e] at hR5; exact hR5
         obtain ⟨su29, hsu29⟩ := sZ u29.heap.size
         have Nu29 := nZ hg5.size hsu28 hsu29
         rw [hsu28.out] at ho5
         have F5 := Lib.hid (app_block ho5 F3.out (fun k h => Nat.lt_of_lt_of_eq (hR5.2.lt k h).2 hsu29.out))
         replace hB8 := hB8.grow hg5 (fun g o e e2 => by have h1 := F8.out g o e; have h2 := F3.out g e2; (try dsimp only at h1 h2); have := Nu1.out; have := Nu17.out; have := Nu27.out; have := eq8.out; have := Nu28.out; have := Nu29.out; omega)
         clear hR3 hR4
         obtain ⟨A5, c5, rfl, -⟩ := hR5.byT
         have Hu29 := Lib.hid hR5.1
         clear hg5 ho5
         refine hK.out _ _ (HS.out _ Hu29.out) (fun hHeld => ?_)
         clear hK K
         (try simp only [Act.put, jA, jB, jC, jD, jE, jF])
         refine tZ 9 ?_
         refine rZ 10 (fun K hK => ?_)
         (try simp only [jA, jB, jC])
         go_simp
         obtain ⟨u30, eu30⟩ : ∃ V, u29.alloc (Obj.cells #[.slice A5 key0.length c5, .slice (some ⟨q8, 0, none⟩) ol.length cc8] 39) = V := ⟨_, rfl⟩
         have hu30 := bZ eu30
         have hI10 := heap_alloc_new u29 (Obj.cells #[.slice A5 key0.length c5, .slice (some ⟨q8, 0, none⟩) ol.length cc8] 39 (0, 0))
         rw [eu30] at hI10 ⊢
         obtain ⟨su30, hsu30⟩ := sZ u30.heap.size
         clear eu30
         have Hu30 := Lib.hid (Hu29.out.trans (hu30.mono Hu29.out.size))
         replace hR5 := hR5.on hu30
         replace hB8 := hB8.on hu30
         clear hu30
         refine hK.out _ _ (HS.out _ Hu30.out) (fun hHeld => ?_)
         clear hK K
         (try simp only [Act.put, jA, jB, jC, jD, jE, jF])
         refine rZ 11 (fun K hK => ?_)
         refine step_appI (HV3.out.on Hu30.out) ⟨key0, A5, c5, ol, some ⟨q8, 0, none⟩, cc8⟩ (lone_it hR5.bt.1 hR5.bt.2.1 hR5.bt.2.2.1 hR5.bt.2.2.2 hB8 hcc8 hmm8 (fun e => by cases e)) hI10 rfl hvl.out rfl _ _ rfl rfl _ rfl ?_; rintro v11 u31 hrow11 hk11; have hkk11 := (KeepT.below Hu30.out).trans hk11
         refine hK.out _ _ (HSK.out _ hrow11.below hkk11) (fun hHeld => ?_)
         clear hK K
         (try simp only [Act.put, jA, jB, jC, jD, jE, jF])
         refine tZ 12 ?_
         refine wpAnyH_done (by decide +kernel) ?_ _
         clear hHeld
         go_wp2_with fail
         go_meet
         exact ⟨hrow11, hkk11⟩
       ·skip
        obtain ⟨u32, cc8, hrun, hbb8, hB8, hcc8, hmm8, ob8, hx8⟩ := conv_own2 u1 own hosz.out
        obtain ⟨q8, eq8⟩ : ∃ q, Hid (su1 = q) := ⟨_, Lib.hid rfl⟩
        rw [hsu1.out, eq8.out] at hrun hB8 hx8
        rw [hol.out] at hrun hB8 hcc8
        (try simp only [jA, jB, jC])
        go_simp
        clear hrun
        have hu32 : Below u1.heap.size u1 u32 := hbb8
        obtain ⟨su32, hsu32⟩ := sZ u32.heap.size
        have Nu32 : Hid (su1 < su32) := by have h1 := blk_lt hx8; rw [hsu32.out, ← eq8.out] at h1; exact h1
        have F8 := gZ q8
        have Hu32 := Lib.hid (Hu1.out.trans (hu32.mono Hu1.out.size))
        replace hR1 := hR1.on hu32
        clear hu32
        refine hK.out _ _ (HS.out _ Hu32.out) (fun hHeld => ?_)
        clear hK K
        (try simp only [Act.put, jA, jB, jC, jD, jE, jF])
        refine wpAnyH_ready (rs := [3, 4]) (by decide +kernel) (by simp) ?_
        refine AllReadyH.cons rfl (fun K hK => ?_) (AllReadyH.cons rfl (fun K hK => ?_) AllReadyH.nil)
        ·skip
         refine step_app hR1 _ _ _ (HIB.out _ Hu32.out) HIN.out (by have := HIL.out; simp; omega) rfl _ _ rfl rfl rfl ?_
         rintro v3 u33 hR3 hg3 ho3
         replace hR3 : BRow W3 v3 hd u33 := by have e := HHD.out; rw [e] at hR3; exact hR3
         obtain ⟨su33, hsu33⟩ := sZ u33.heap.size
         have Nu33 := nZ hg3.size hsu32 hsu33
         rw [hsu32.out] at ho3
         have F3 := Lib.hid (app_block ho3 F1.out (fun k h => Nat.lt_of_lt_of_eq (hR3.2.lt k h).2 hsu33.out))
         replace hB8 := hB8.grow hg3 (fun g o e e2 => by have h1 := F8.out g o e; have h2 := F1.out g e2; (try dsimp only at h1 h2); have := Nu1.out; have := Nu32.out; have := eq8.out; have := Nu33.out; omega)
         clear hR1
         obtain ⟨A3, c3, rfl, -⟩ := hR3.byT
         have Hu33 := Lib.hid hR3.1
         clear hg3 ho3
         refine hK.out _ _ (HS.out _ Hu33.out) (fun hHeld => ?_)
         clear hK K
         (try simp only [Act.put, jA, jB, jC, jD, jE, jF])
         refine rZ 4 (fun K hK => ?_)
         (try simp only [jA, jB, jC])
         go_simp
         obtain ⟨u34, eu34⟩ : ∃ V, u33.alloc (Obj.cells #[.int .u8 0] 5) = V := ⟨_, rfl⟩
         have hR4 := BRow.lit Hu33.out #[.int .u8 0] [(0 : UInt8)] rfl (by simp)
         rw [eu34] at hR4
         have hu34 := bZ eu34
         obtain ⟨su34, hsu34⟩ := sZ u34.heap.size
         have Nu34 := lZ eu34 hsu33 hsu34
         rw [eu34]
         rw [hsu33.out] at hR4 ⊢
         have F4 := fZ su33 ([(0 : UInt8)]).length ([(0 : UInt8)]).length
         clear eu34
         have Hu34 := Lib.hid (Hu33.out.trans (hu34.mono Hu33.out.size))
         replace hR3 := hR3.on hu34
         replace hB8 := hB8.on hu34
         clear hu34
         refine hK.out _ _ (HS.out _ Hu34.out) (fun hHeld => ?_)
         clear hK K
         (try simp only [Act.put, jA, jB, jC, jD, jE, jF])
         refine rZ 5 (fun K hK => ?_)
         refine step_app hR3 _ _ _ hR4.bytesAt hR4.bt.2.2.2 (by have := congrArg List.length HHD.out; have h2 := HIL.out; simp at this ⊢; omega) rfl _ _ rfl rfl rfl ?_
         rintro v5 u35 hR5 hg5 ho5
         replace hR5 : BRow W3 v5 key0 u35 := by have e := HK0.out; rw [e] at hR5; exact hR5
         obtain ⟨su35, hsu35⟩ := sZ u35.heap.size
         have Nu35 := nZ hg5.size hsu34 hsu35
         rw [hsu34.out] at ho5
         have F5 := Lib.hid (app_block ho5 F3.out (fun k h => Nat.lt_of_lt_of_eq (hR5.2.lt k h).2 hsu35.out))
         replace hB8 := hB8.grow hg5 (fun g o e e2 => by have h1 := F8.out g o e; have h2 := F3.out g e2; (try dsimp only at h1 h2); have := Nu1.out; have := Nu32.out; have := eq8.out; have := Nu33.out; have := Nu34.out; have := Nu35.out; omega)
         clear hR3 hR4
         obtain ⟨A5, c5, rfl, -⟩ := hR5.byT
         have Hu35 := Lib.hid hR5.1
         clear hg5 ho5
         refine hK.out _ _ (HS.out _ Hu35.out) (fun hHeld => ?_)
         clear hK K
         (try simp only [Act.put, jA, jB, jC, jD, jE, jF])
         refine tZ 9 ?_
         refine rZ 10 (fun K hK => ?_)
         (try simp only [jA, jB, jC])
         go_simp
         obtain ⟨u36, eu36⟩ : ∃ V, u35.alloc (Obj.cells #[.slice A5 key0.length c5, .slice (some ⟨q8, 0, none⟩) ol.length cc8] 39) = V := ⟨_, rfl⟩
         have hu36 := bZ eu36
         have hI10 := heap_alloc_new u35 (Obj.cells #[.slice A5 key0.length c5, .slice (some ⟨q8, 0, none⟩) ol.length cc8] 39 (0, 0))
         rw [eu36] at hI10 ⊢
         obtain ⟨su36, hsu36⟩ := sZ u36.heap.size
         clear eu36
         have Hu36 := Lib.hid (Hu35.out.trans (hu36.mono Hu35.out.size))
         replace hR5 := hR5.on hu36
         replace hB8 := hB8.on hu36
         clear hu36
         refine hK.out _ _ (HS.out _ Hu36.out) (fun hHeld => ?_)
         clear hK K
         (try simp only [Act.put, jA, jB, jC, jD, jE, jF])
         refine rZ 11 (fun K hK => ?_)
         refine step_appI (HV3.out.on Hu36.out) ⟨key0, A5, c5, ol, some ⟨q8, 0, none⟩, cc8⟩ (lone_it hR5.bt.1 hR5.bt.2.1 hR5.bt.2.2.1 hR5.bt.2.2.2 hB8 hcc8 hmm8 (fun e => by cases e)) hI10 rfl hvl.out rfl _ _ rfl rfl _ rfl ?_; rintro v11 u37 hrow11 hk11; have hkk11 := (KeepT.below Hu36.out).trans hk11
         refine hK.out _ _ (HSK.out _ hrow11.below hkk11) (fun hHeld => ?_)
         clear hK K
         (try simp only [Act.put, jA, jB, jC, jD, jE, jF])
         refine tZ 12 ?_
         refine wpAnyH_done (by decide +kernel) ?_ _
         clear hHeld
         go_wp2_with fail
         go_meet
         exact ⟨hrow11, hkk11⟩
        ·skip
         (try simp only [jA, jB, jC])
         go_simp
         obtain ⟨u38, eu38⟩ : ∃ V, u32.alloc (Obj.cells #[.int .u8 0] 5) = V := ⟨_, rfl⟩
         have hR4 := BRow.lit Hu32.out #[.int .u8 0] [(0 : UInt8)] rfl (by simp)
         rw [eu38] at hR4
         have hu38 := bZ eu38
         obtain ⟨su38, hsu38⟩ := sZ u38.heap.size
         have Nu38 := lZ eu38 hsu32 hsu38
         rw [eu38]
         rw [hsu32.out] at hR4 ⊢
         have F4 := fZ su32 ([(0 : UInt8)]).length ([(0 : UInt8)]).length
         clear eu38
         have Hu38 := Lib.hid (Hu32.out.trans (hu38.mono Hu32.out.size))
         replace hR1 := hR1.on hu38
         replace hB8 := hB8.on hu38
         clear hu38
         refine hK.out _ _ (HS.out _ Hu38.out) (fun hHeld => ?_)
         clear hK K
         (try simp only [Act.put, jA, jB, jC, jD, jE, jF])
         refine rZ 3 (fun K hK => ?_)
         refine step_app hR1 _ _ _ (HIB.out _ Hu38.out) HIN.out (by have := HIL.out; simp; omega) rfl _ _ rfl rfl rfl ?_
         rintro v3 u39 hR3 hg3 ho3
         replace hR3 : BRow W3 v3 hd u39 := by have e := HHD.out; rw [e] at hR3; exact hR3
         obtain ⟨su39, hsu39⟩ := sZ u39.heap.size
         have Nu39 := nZ hg3.size hsu38 hsu39
         rw [hsu38.out] at ho3
         have F3 := Lib.hid (app_block ho3 F1.out (fun k h => Nat.lt_of_lt_of_eq (hR3.2.lt k h).2 hsu39.out))
         replace hR4 := hR4.kept hg3 hR3.1 (apartO F4.out F1.out (fun k h1 h2 => by (try dsimp only at h1 h2); have := Nu1.out; have := Nu32.out; have := eq8.out; have := Nu38.out; have := Nu39.out; omega))
         replace hB8 := hB8.grow hg3 (fun g o e e2 => by have h1 := F8.out g o e; have h2 := F1.out g e2; (try dsimp only at h1 h2); have := Nu1.out; have := Nu32.out; have := eq8.out; have := Nu38.out; have := Nu39.out; omega)
         clear hR1
         obtain ⟨A3, c3, rfl, -⟩ := hR3.byT
         have Hu39 := Lib.hid hR3.1
         clear hg3 ho3
         refine hK.out _ _ (HS.out _ Hu39.out) (fun hHeld => ?_)
         clear hK K
         (try simp only [Act.put, jA, jB, jC, jD, jE, jF])
         refine rZ 5 (fun K hK => ?_)
         refine step_app hR3 _ _ _ hR4.bytesAt hR4.bt.2.2.2 (by have := congrArg List.length HHD.out; have h2 := HIL.out; simp at this ⊢; omega) rfl _ _ rfl rfl rfl ?_
         rintro v5 u40 hR5 hg5 ho5
         replace hR5 : BRow W3 v5 key0 u40 := by have e := HK0.out; rw [e] at hR5; exact hR5
         obtain ⟨su40, hsu40⟩ := sZ u40.heap.size
         have Nu40 := nZ hg5.size hsu39 hsu40
         rw [hsu39.out] at ho5
         have F5 := Lib.hid (app_block ho5 F3.out (fun k h => Nat.lt_of_lt_of_eq (hR5.2.lt k h).2 hsu40.out))
         replace hB8 := hB8.grow hg5 (fun g o e e2 => by have h1 := F8.out g o e; have h2 := F3.out g e2; (try dsimp only at h1 h2); have := Nu1.out; have := Nu32.out; have := eq8.out; have := Nu38.out; have := Nu39.out; have := Nu40.out; omega)
         clear hR3 hR4
         obtain ⟨A5, c5, rfl, -⟩ := hR5.byT
         have Hu40 := Lib.hid hR5.1
         clear hg5 ho5
         refine hK.out _ _ (HS.out _ Hu40.out) (fun hHeld => ?_)
         clear hK K
         (try simp only [Act.put, jA, jB, jC, jD, jE, jF])
         refine tZ 9 ?_
         refine rZ 10 (fun K hK => ?_)
         (try simp only [jA, jB, jC])
         go_simp
         obtain ⟨u41, eu41⟩ : ∃ V, u40.alloc (Obj.cells #[.slice A5 key0.length c5, .slice (some ⟨q8, 0, none⟩) ol.length cc8] 39) = V := ⟨_, rfl⟩
         have hu41 := bZ eu41
         have hI10 := heap_alloc_new u40 (Obj.cells #[.slice A5 key0.length c5, .slice (some ⟨q8, 0, none⟩) ol.length cc8] 39 (0, 0))
         rw [eu41] at hI10 ⊢
         obtain ⟨su41, hsu41⟩ := sZ u41.heap.size
         clear eu41
         have Hu41 := Lib.hid (Hu40.out.trans (hu41.mono Hu40.out.size))
         replace hR5 := hR5.on hu41
         replace hB8 := hB8.on hu41
         clear hu41
         refine hK.out _ _ (HS.out _ Hu41.out) (fun hHeld => ?_)
         clear hK K
         (try simp only [Act.put, jA, jB, jC, jD, jE, jF])
         refine rZ 11 (fun K hK => ?_)
         refine step_appI (HV3.out.on Hu41.out) ⟨key0, A5, c5, ol, some ⟨q8, 0, none⟩, cc8⟩ (lone_it hR5.bt.1 hR5.bt.2.1 hR5.bt.2.2.1 hR5.bt.2.2.2 hB8 hcc8 hmm8 (fun e => by cases e)) hI10 rfl hvl.out rfl _ _ rfl rfl _ rfl ?_; rintro v11 u42 hrow11 hk11; have hkk11 := (KeepT.below Hu41.out).trans hk11
         refine hK.out _ _ (HSK.out _ hrow11.below hkk11) (fun hHeld => ?_)
         clear hK K
         (try simp only [Act.put, jA, jB, jC, jD, jE, jF])
         refine tZ 12 ?_
         refine wpAnyH_done (by decide +kernel) ?_ _
         clear hHeld
         go_wp2_with fail
         go_meet
         exact ⟨hrow11, hkk11⟩
      ·skip
       (try simp only [jA, jB, jC])
       go_simp
       obtain ⟨u43, eu43⟩ : ∃ V, u0.alloc (Obj.cells #[.int .u8 0] 5) = V := ⟨_, rfl⟩
       have hR4 := BRow.lit Hu0.out #[.int .u8 0] [(0 : UInt8)] rfl (by simp)
       rw [eu43] at hR4
       have hu43 := bZ eu43
       obtain ⟨su43, hsu43⟩ := sZ u43.heap.size
       have Nu43 := lZ eu43 hsu0 hsu43
       rw [eu43]
       rw [hsu0.out] at hR4 ⊢
       have F4 := fZ su0 ([(0 : UInt8)]).length ([(0 : UInt8)]).length
       clear eu43
       have Hu43 := Lib.hid (Hu0.out.trans (hu43.mono Hu0.out.size))
       clear hu43
       refine hK.out _ _ (HS.out _ Hu43.out) (fun hHeld => ?_)
       clear hK K
       (try simp only [Act.put, jA, jB, jC, jD, jE, jF])
       refine wpAnyH_ready (rs := [1, 8]) (by decide +kernel) (by simp) ?_
       refine AllReadyH.cons rfl (fun K hK => ?_) (AllReadyH.cons rfl (fun K hK => ?_) AllReadyH.nil)
       ·skip
        (try simp only [jA, jB, jC])
        go_simp
        obtain ⟨u44, eu44⟩ : ∃ V, u43.alloc (Obj.cells #[.int .u8 112] 5) = V := ⟨_, rfl⟩
        have hR1 := BRow.lit Hu43.out #[.int .u8 112] [(112 : UInt8)] rfl (by simp)
        rw [eu44] at hR1
        have hu44 := bZ eu44
        obtain ⟨su44, hsu44⟩ := sZ u44.heap.size
        have Nu44 := lZ eu44 hsu43 hsu44
        rw [eu44]
        rw [hsu43.out] at hR1 ⊢
        have F1 := fZ su43 ([(112 : UInt8)]).length ([(112 : UInt8)]).length
        clear eu44
        have Hu44 := Lib.hid (Hu43.out.trans (hu44.mono Hu43.out.size))
        replace hR4 := hR4.on hu44
        clear hu44
        refine hK.out _ _ (HS.out _ Hu44.out) (fun hHeld => ?_)
        clear hK K
        (try simp only [Act.put, jA, jB, jC, jD, jE, jF])
        refine wpAnyH_ready (rs := [3, 8]) (by decide +kernel) (by simp) ?_
        refine AllReadyH.cons rfl (fun K hK => ?_) (AllReadyH.cons rfl (fun K hK => ?_) AllReadyH.nil)
        ·skip
         refine step_app hR1 _ _ _ (HIB.out _ Hu44.out) HIN.out (by have := HIL.out; simp; omega) rfl _ _ rfl rfl rfl ?_
         rintro v3 u45 hR3 hg3 ho3
         replace hR3 : BRow W3 v3 hd u45 := by have e := HHD.out; rw [e] at hR3; exact hR3
         obtain ⟨su45, hsu45⟩ := sZ u45.heap.size
         have Nu45 := nZ hg3.size hsu44 hsu45
         rw [hsu44.out] at ho3
         have F3 := Lib.hid (app_block ho3 F1.out (fun k h => Nat.lt_of_lt_of_eq (hR3.2.lt k h).2 hsu45.out))
         replace hR4 := hR4.kept hg3 hR3.1 (apartO F4.out F1.out (fun k h1 h2 => by (try dsimp only at h1 h2); have := Nu43.out; have := Nu44.out; have := Nu45.out; omega))
         clear hR1
         obtain ⟨A3, c3, rfl, -⟩ := hR3.byT
         have Hu45 := Lib.hid hR3.1
         clear hg3 ho3
         refine hK.out _ _ (HS.out _ Hu45.out) (fun hHeld => ?_)
         clear hK K
         (try simp only [Act.put, jA, jB, jC, jD, jE, jF])
         refine wpAnyH_ready (rs := [5, 8]) (by decide +kernel) (by simp) ?_
         refine AllReadyH.cons rfl (fun K hK => ?_) (AllReadyH.cons rfl (fun K hK => ?_) AllReadyH.nil)
         ·skip
          refine step_app hR3 _ _ _ hR4.bytesAt hR4.bt.2.2.2 (by have := congrArg List.length HHD.out; have h2 := HIL.out; simp at this ⊢; omega) rfl _ _ rfl rfl rfl ?_
          rintro v5 u46 hR5 hg5 ho5
          replace hR5 : BRow W3 v5 key0 u46 := by have e := HK0.out; rw [e] at hR5; exact hR5
          obtain ⟨su46, hsu46⟩ := sZ u46.heap.size
          have Nu46 := nZ hg5.size hsu45 hsu46
          rw [hsu45.out] at ho5
          have F5 := Lib.hid (app_block ho5 F3.out (fun k h => Nat.lt_of_lt_of_eq (hR5.2.lt k h).2 hsu46.out))
          clear hR3 hR4
          obtain ⟨A5, c5, rfl, -⟩ := hR5.byT
          have Hu46 := Lib.hid hR5.1
          clear hg5 ho5
          refine hK.out _ _ (HS.out _ Hu46.out) (fun hHeld => ?_)
          clear hK K
          (try simp only [Act.put, jA, jB, jC, jD, jE, jF])
          refine rZ 8 (fun K hK => ?_)
          obtain ⟨u47, cc8, hrun, hbb8, hB8, hcc8, hmm8, ob8, hx8⟩ := conv_own2 u46 own hosz.out
          obtain ⟨q8, eq8⟩ : ∃ q, Hid (su46 = q) := ⟨_, Lib.hid rfl⟩
          rw [hsu46.out, eq8.out] at hrun hB8 hx8
          rw [hol.out] at hrun hB8 hcc8
          (try simp only [jA, jB, jC])
          go_simp
          clear hrun
          have hu47 : Below u46.heap.size u46 u47 := hbb8
          obtain ⟨su47, hsu47⟩ := sZ u47.heap.size
          have Nu47 : Hid (su46 < su47) := by have h1 := blk_lt hx8; rw [hsu47.out, ← eq8.out] at h1; exact h1
          have F8 := gZ q8
          have Hu47 := Lib.hid (Hu46.out.trans (hu47.mono Hu46.out.size))
          replace hR5 := hR5.on hu47
          clear hu47
          refine hK.out _ _ (HS.out _ Hu47.out) (fun hHeld => ?_)
          clear hK K
          (try simp only [Act.put, jA, jB, jC, jD, jE, jF])
          refine tZ 9 ?_
          refine rZ 10 (fun K hK => ?_)
          (try simp only [jA, jB, jC])
          go_simp
          obtain ⟨u48, eu48⟩ : ∃ V, u47.alloc (Obj.cells #[.slice A5 key0.length c5, .slice (some ⟨q8, 0, none⟩) ol.length cc8] 39) = V := ⟨_, rfl⟩
          have hu48 := bZ eu48
          have hI10 := heap_alloc_new u47 (Obj.cells #[.slice A5 key0.length c5, .slice (some ⟨q8, 0, none⟩) ol.length cc8] 39 (0, 0))
          rw [eu48] at hI10 ⊢
          obtain ⟨su48, hsu48⟩ := sZ u48.heap.size
          clear eu48
          have Hu48 := Lib.hid (Hu47.out.trans (hu48.mono Hu47.out.size))
          replace hR5 := hR5.on hu48
          replace hB8 := hB8.on hu48
          clear hu48
          refine hK.out _ _ (HS.out _ Hu48.out) (fun hHeld => ?_)
          clear hK K
          (try simp only [Act.put, jA, jB, jC, jD, jE, jF])
          refine rZ 11 (fun K hK => ?_)
          refine step_appI (HV3.out.on Hu48.out) ⟨key0, A5, c5, ol, some ⟨q8, 0, none⟩, cc8⟩ (lone_it hR5.bt.1 hR5.bt.2.1 hR5.bt.2.2.1 hR5.bt.2.2.2 hB8 hcc8 hmm8 (fun e => by cases e)) hI10 rfl hvl.out rfl _ _ rfl rfl _ rfl ?_; rintro v11 u49 hrow11 hk11; have hkk11 := (KeepT.below Hu48.out).trans hk11
          refine hK.out _ _ (HSK.out _ hrow11.below hkk11) (fun hHeld => ?_)
          clear hK K
          (try simp only [Act.put, jA, jB, jC, jD, jE, jF])
          refine tZ 12 ?_
          refine wpAnyH_done (by decide +kernel) ?_ _
          clear hHeld
          go_wp2_with fail
          go_meet
          exact ⟨hrow11, hkk11⟩
         ·skip
          obtain ⟨u50, cc8, hrun, hbb8, hB8, hcc8, hmm8, ob8, hx8⟩ := conv_own2 u45 own hosz.out
          obtain ⟨q8, eq8⟩ : ∃ q, Hid (su45 = q) := ⟨_, Lib.hid rfl⟩
          rw [hsu45.out, eq8.out] at hrun hB8 hx8
          rw [hol.out] at hrun hB8 hcc8
          (try simp only [jA, jB, jC])
          go_simp
          clear hrun
          have hu50 : Below u45.heap.size u45 u50 := hbb8
          obtain ⟨su50, hsu50⟩ := sZ u50.heap.size
          have Nu50 : Hid (su45 < su50) := by have h1 := blk_lt hx8; rw [hsu50.out, ← eq8.out] at h1; exact h1
          have F8 := gZ q8
          have Hu50 := Lib.hid (Hu45.out.trans (hu50.mono Hu45.out.size))
          replace hR4 := hR4.on hu50
          replace hR3 := hR3.on hu50
          clear hu50
          refine hK.out _ _ (HS.out _ Hu50.out) (fun hHeld => ?_)
          clear hK K
          (try simp only [Act.put, jA, jB, jC, jD, jE, jF])
          refine rZ 5 (fun K hK => ?_)
          refine step_app hR3 _ _ _ hR4.bytesAt hR4.bt.2.2.2 (by have := congrArg List.length HHD.out; have h2 := HIL.out; simp at this ⊢; omega) rfl _ _ rfl rfl rfl ?_
          rintro v5 u51 hR5 hg5 ho5
          replace hR5 : BRow W3 v5 key0 u51 := by have e := HK0.out; rw [e] at hR5; exact hR5
          obtain ⟨su51, hsu51⟩ := sZ u51.heap.size
          have Nu51 := nZ hg5.size hsu50 hsu51
          rw [hsu50.out] at ho5
          have F5 := Lib.hid (app_block ho5 F3.out (fun k h => Nat.lt_of_lt_of_eq (hR5.2.lt k h).2 hsu51.out))
          replace hB8 := hB8.grow hg5 (fun g o e e2 => by have h1 := F8.out g o e; have h2 := F3.out g e2; (try dsimp only at h1 h2); have := Nu43.out; have := Nu44.out; have := Nu45.out; have := Nu50.out; have := eq8.out; have := Nu51.out; omega)
          clear hR3 hR4
          obtain ⟨A5, c5, rfl, -⟩ := hR5.byT
          have Hu51 := Lib.hid hR5.1
          clear hg5 ho5
          refine hK.out _ _ (HS.out _ Hu51.out) (fun hHeld => ?_)
          clear hK K
          (try simp only [Act.put, jA, jB, jC, jD, jE, jF])
          refine tZ 9 ?_
          refine rZ 10 (fun K hK => ?_)
          (try simp only [jA, jB, jC])
          go_simp
          obtain ⟨u52, eu52⟩ : ∃ V, u51.alloc (Obj.cells #[.slice A5 key0.length c5, .slice (some ⟨q8, 0, none⟩) ol.length cc8] 39) = V := ⟨_, rfl⟩
          have hu52 := bZ eu52
          have hI10 := heap_alloc_new u51 (Obj.cells #[.slice A5 key0.length c5, .slice (some ⟨q8, 0, none⟩) ol.length cc8] 39 (0, 0))
          rw [eu52] at hI10 ⊢
          obtain ⟨su52, hsu52⟩ := sZ u52.heap.size
          clear eu52
          have Hu52 := Lib.hid (Hu51.out.trans (hu52.mono Hu51.out.size))
          replace hR5 := hR5.on hu52
          replace hB8 := hB8.on hu52
          clear hu52
          refine hK.out _ _ (HS.out _ Hu52.out) (fun hHeld => ?_)
          clear hK K
          (try simp only [Act.put, jA, jB, jC, jD, jE, jF])
          refine rZ 11 (fun K hK => ?_)
          refine step_appI (HV3.out.on Hu52.out) ⟨key0, A5, c5, ol, some ⟨q8, 0, none⟩, cc8⟩ (lone_it hR5.bt.1 hR5.bt.2.1 hR5.bt.2.2.1 hR5.bt.2.2.2 hB8 hcc8 hmm8 (fun e => by cases e)) hI10 rfl hvl.out rfl _ _ rfl rfl _ rfl ?_; rintro v11 u53 hrow11 hk11; have hkk11 := (KeepT.below Hu52.out).trans hk11
          refine hK.out _ _ (HSK.out _ hrow11.below hkk11) (fun hHeld => ?_)
          clear hK K
          (try simp only [Act.put, jA, jB, jC, jD, jE, jF])
          refine tZ 12 ?_
          refine wpAnyH_done (by decide +kernel) ?_ _
          clear hHeld
          go_wp2_with fail
          go_meet
          exact ⟨hrow11, hkk11⟩
        ·skip
         obtain ⟨u54, cc8, hrun, hbb8, hB8, hcc8, hmm8, ob8, hx8⟩ := conv_own2 u44 own hosz.out
         obtain ⟨q8, eq8⟩ : ∃ q, Hid (su44 = q) := ⟨_, Lib.hid rfl⟩
         rw [hsu44.out, eq8.out] at hrun hB8 hx8
         rw [hol.out] at hrun hB8 hcc8
         (try simp only [jA, jB, jC])
         go_simp
         clear hrun
         have hu54 : Below u44.heap.size u44 u54 := hbb8
         obtain ⟨su54, hsu54⟩ := sZ u54.heap.size
         have Nu54 : Hid (su44 < su54) := by have h1 := blk_lt hx8; rw [hsu54.out, ← eq8.out] at h1; exact h1
         have F8 := gZ q8
         have Hu54 := Lib.hid (Hu44.out.trans (hu54.mono Hu44.out.size))
         replace hR4 := hR4.on hu54
         replace hR1 := hR1.on hu54
         clear hu54
         refine hK.out _ _ (HS.out _ Hu54.out) (fun hHeld => ?_)
         clear hK K
         (try simp only [Act.put, jA, jB, jC, jD, jE, jF])
         refine rZ 3 (fun K hK => ?_)
         refine step_app hR1 _ _ _ (HIB.out _ Hu54.out) HIN.out (by have := HIL.out; simp; omega) rfl _ _ rfl rfl rfl ?_
         rintro v3 u55 hR3 hg3 ho3
         replace hR3 : BRow W3 v3 hd u55 := by have e := HHD.out; rw [e] at hR3; exact hR3
         obtain ⟨su55, hsu55⟩ := sZ u55.heap.size
         have Nu55 := nZ hg3.size hsu54 hsu55
         rw [hsu54.out] at ho3
         have F3 := Lib.hid (app_block ho3 F1.out (fun k h => Nat.lt_of_lt_of_eq (hR3.2.lt k h).2 hsu55.out))
         replace hR4 := hR4.kept hg3 hR3.1 (apartO F4.out F1.out (fun k h1 h2 => by (try dsimp only at h1 h2); have := Nu43.out; have := Nu44.out; have := Nu54.out; have := eq8.out; have := Nu55.out; omega))
         replace hB8 := hB8.grow hg3 (fun g o e e2 => by have h1 := F8.out g o e; have h2 := F1.out g e2; (try dsimp only at h1 h2); have := Nu43.out; have := Nu44.out; have := Nu54.out; have := eq8.out; have := Nu55.out; omega)
         clear hR1
         obtain ⟨A3, c3, rfl, -⟩ := hR3.byT
         have Hu55 := Lib.hid hR3.1
         clear hg3 ho3
         refine hK.out _ _ (HS.out _ Hu55.out) (fun hHeld => ?_)
         clear hK K
         (try simp only [Act.put, jA, jB, jC, jD, jE, jF])
         refine rZ 5 (fun K hK => ?_)
         refine step_app hR3 _ _ _ hR4.bytesAt hR4.bt.2.2.2 (by have := congrArg List.length HHD.out; have h2 := HIL.out; simp at this ⊢; omega) rfl _ _ rfl rfl rfl ?_
         rintro v5 u56 hR5 hg5 ho5
         replace hR5 : BRow W3 v5 key0 u56 := by have e := HK0.out; rw [e] at hR5; exact hR5
         obtain ⟨su56, hsu56⟩ := sZ u56.heap.size
         have Nu56 := nZ hg5.size hsu55 hsu56
         rw [hsu55.out] at ho5
         have F5 := Lib.hid (app_block ho5 F3.out (fun k h => Nat.lt_of_lt_of_eq (hR5.2.lt k h).2 hsu56.out))
         replace hB8 := hB8.grow hg5 (fun g o e e2 => by have h1 := F8.out g o e; have h2 := F3.out g e2; (try dsimp only at h1 h2); have := Nu43.out; have := Nu44.out; have := Nu54.out; have := eq8.out; have := Nu55.out; have := Nu56.out; omega)
         clear hR3 hR4
         obtain ⟨A5, c5, rfl, -⟩ := hR5.byT
         have Hu56 := Lib.hid hR5.1
         clear hg5 ho5
         refine hK.out _ _ (HS.out _ Hu56.out) (fun hHeld => ?_)
         clear hK K
         (try simp only [Act.put, jA, jB, jC, jD, jE, jF])
         refine tZ 9 ?_
         refine rZ 10 (fun K hK => ?_)
         (try simp only [jA, jB, jC])
         go_simp
         obtain ⟨u57, eu57⟩ : ∃ V, u56.alloc (Obj.cells #[.slice A5 key0.length c5, .slice (some ⟨q8, 0, none⟩) ol.length cc8] 39) = V := ⟨_, rfl⟩
         have hu57 := bZ eu57
         have hI10 := heap_alloc_new u56 (Obj.cells #[.slice A5 key0.length c5, .slice (some ⟨q8, 0, none⟩) ol.length cc8] 39 (0, 0))
         rw [eu57] at hI10 ⊢
         obtain ⟨su57, hsu57⟩ := sZ u57.heap.size
         clear eu57
         have Hu57 := Lib.hid (Hu56.out.trans (hu57.mono Hu56.out.size))
         replace hR5 := hR5.on hu57
         replace hB8 := hB8.on hu57
         clear hu57
         refine hK.out _ _ (HS.out _ Hu57.out) (fun hHeld => ?_)
         clear hK K
         (try simp only [Act.put, jA, jB, jC, jD, jE, jF])
         refine rZ 11 (fun K hK => ?_)
         refine step_appI (HV3.out.on Hu57.out) ⟨key0, A5, c5, ol, some ⟨q8, 0, none⟩, cc8⟩ (lone_it hR5.bt.1 hR5.bt.2.1 hR5.bt.2.2.1 hR5.bt.2.2.2 hB8 hcc8 hmm8 (fun e => by cases e)) hI10 rfl hvl.out rfl _ _ rfl rfl _ rfl ?_; rintro v11 u58 hrow11 hk11; have hkk11 := (KeepT.below Hu57.out).trans hk11
         refine hK.out _ _ (HSK.out _ hrow11.below hkk11) (fun hHeld => ?_)
         clear hK K
         (try simp only [Act.put, jA, jB, jC, jD, jE, jF])
         refine tZ 12 ?_
         refine wpAnyH_done (by decide +kernel) ?_ _
         clear hHeld
         go_wp2_with fail
         go_meet
         exact ⟨hrow11, hkk11⟩
       ·skip
        obtain ⟨u59, cc8, hrun, hbb8, hB8, hcc8, hmm8, ob8, hx8⟩ := conv_own2 u43 own hosz.out
        obtain ⟨q8, eq8⟩ : ∃ q, Hid (su43 = q) := ⟨_, Lib.hid rfl⟩
        rw [hsu43.out, eq8.out] at hrun hB8 hx8
        rw [hol.out] at hrun hB8 hcc8
        (try simp only [jA, jB, jC])
        go_simp
        clear hrun
        have hu59 : Below u43.heap.size u43 u59 := hbb8
        obtain ⟨su59, hsu59⟩ := sZ u59.heap.size
        have Nu59 : Hid (su43 < su59) := by have h1 := blk_lt hx8; rw [hsu59.out, ← eq8.out] at h1; exact h1
        have F8 := gZ q8
        have Hu59 := Lib.hid (Hu43.out.trans (hu59.mono Hu43.out.size))
        replace hR4 := hR4.on hu59
        clear hu59
        refine hK.out _ _ (HS.out _ Hu59.out) (fun hHeld => ?_)
        clear hK K
        (try simp only [Act.put, jA, jB, jC, jD, jE, jF])
        refine rZ 1 (fun K hK => ?_)
        (try simp only [jA, jB, jC])
        go_simp
        obtain ⟨u60, eu60⟩ : ∃ V, u59.alloc (Obj.cells #[.int .u8 112] 5) = V := ⟨_, rfl⟩
        have hR1 := BRow.lit Hu59.out #[.int .u8 112] [(112 : UInt8)] rfl (by simp)
        rw [eu60] at hR1
        have hu60 := bZ eu60
        obtain ⟨su60, hsu60⟩ := sZ u60.heap.size
        have Nu60 := lZ eu60 hsu59 hsu60
        rw [eu60]
        rw [hsu59.out] at hR1 ⊢
        have F1 := fZ su59 ([(112 : UInt8)]).length ([(112 : UInt8)]).length
        clear eu60
        have Hu60 := Lib.hid (Hu59.out.trans (hu60.mono Hu59.out.size))
        replace hR4 := hR4.on hu60
        replace hB8 := hB8.on hu60
        clear hu60
        refine hK.out _ _ (HS.out _ Hu60.out) (fun hHeld => ?_)
        clear hK K
        (try simp only [Act.put, jA, jB, jC, jD, jE, jF])
        refine rZ 3 (fun K hK => ?_)
        refine step_app hR1 _ _ _ (HIB.out _ Hu60.out) HIN.out (by have := HIL.out; simp; omega) rfl _ _ rfl rfl rfl ?_
        rintro v3 u61 hR3 hg3 ho3
        replace hR3 : BRow W3 v3 hd u61 := by have e := HHD.out; rw [e] at hR3; exact hR3
        obtain ⟨su61, hsu61⟩ := sZ u61.heap.size
        have Nu61 := nZ hg3.size hsu60 hsu61
        rw [hsu60.out] at ho3
        have F3 := Lib.hid (app_block ho3 F1.out (fun k h => Nat.lt_of_lt_of_eq (hR3.2.lt k h).2 hsu61.out))
        replace hR4 := hR4.kept hg3 hR3.1 (apartO F4.out F1.out (fun k h1 h2 => by (try dsimp only at h1 h2); have := Nu43.out; have := Nu59.out; have := eq8.out; have := Nu60.out; have := Nu61.out; omega))
        replace hB8 := hB8.grow hg3 (fun g o e e2 => by have h1 := F8.out g o e; have h2 := F1.out g e2; (try dsimp only at h1 h2); have := Nu43.out; have := Nu59.out; have := eq8.out; have := Nu60.out; have := Nu61.out; omega)
        clear hR1
        obtain ⟨A3, c3, rfl, -⟩ := hR3.byT
        have Hu61 := Lib.hid hR3.1
        clear hg3 ho3
        refine hK.out _ _ (HS.out _ Hu61.out) (fun hHeld => ?_)
        clear hK K
        (try simp only [Act.put, jA, jB, jC, jD, jE, jF])
        refine rZ 5 (fun K hK => ?_)
        refine step_app hR3 _ _ _ hR4.bytesAt hR4.bt.2.2.2 (by have := congrArg List.length HHD.out; have h2 := HIL.out; simp at this ⊢; omega) rfl _ _ rfl rfl rfl ?_
        rintro v5 u62 hR5 hg5 ho5
        replace hR5 : BRow W3 v5 key0 u62 := by have e := HK0.out; rw [e] at hR5; exact hR5
        obtain ⟨su62, hsu62⟩ := sZ u62.heap.size
        have Nu62 := nZ hg5.size hsu61 hsu62
        rw [hsu61.out] at ho5
        have F5 := Lib.hid (app_block ho5 F3.out (fun k h => Nat.lt_of_lt_of_eq (hR5.2.lt k h).2 hsu62.out))
        replace hB8 := hB8.grow hg5 (fun g o e e2 => by have h1 := F8.out g o e; have h2 := F3.out g e2; (try dsimp only at h1 h2); have := Nu43.out; have := Nu59.out; have := eq8.out; have := Nu60.out; have := Nu61.out; have := Nu62.out; omega)
        clear hR3 hR4
        obtain ⟨A5, c5, rfl, -⟩ := hR5.byT
        have Hu62 := Lib.hid hR5.1
        clear hg5 ho5
        refine hK.out _ _ (HS.out _ Hu62.out) (fun hHeld => ?_)
        clear hK K
        (try simp only [Act.put, jA, jB, jC, jD, jE, jF])
        refine tZ 9 ?_
        refine rZ 10 (fun K hK => ?_)
        (try simp only [jA, jB, jC])
        go_simp
        obtain ⟨u63, eu63⟩ : ∃ V, u62.alloc (Obj.cells #[.slice A5 key0.length c5, .slice (some ⟨q8, 0, none⟩) ol.length cc8] 39) = V := ⟨_, rfl⟩
        have hu63 := bZ eu63
        have hI10 := heap_alloc_new u62 (Obj.cells #[.slice A5 key0.length c5, .slice (some ⟨q8, 0, none⟩) ol.length cc8] 39 (0, 0))
        rw [eu63] at hI10 ⊢
        obtain ⟨su63, hsu63⟩ := sZ u63.heap.size
        clear eu63
        have Hu63 := Lib.hid (Hu62.out.trans (hu63.mono Hu62.out.size))
        replace hR5 := hR5.on hu63
        replace hB8 := hB8.on hu63
        clear hu63
        refine hK.out _ _ (HS.out _ Hu63.out) (fun hHeld => ?_)
        clear hK K
        (try simp only [Act.put, jA, jB, jC, jD, jE, jF])
        refine rZ 11 (fun K hK => ?_)
        refine step_appI (HV3.out.on Hu63.out) ⟨key0, A5, c5, ol, some ⟨q8, 0, none⟩, cc8⟩ (lone_it hR5.bt.1 hR5.bt.2.1 hR5.bt.2.2.1 hR5.bt.2.2.2 hB8 hcc8 hmm8 (fun e => by cases e)) hI10 rfl hvl.out rfl _ _ rfl rfl _ rfl ?_; rintro v11 u64 hrow11 hk11; have hkk11 := (KeepT.below Hu63.out).trans hk11
        refine hK.out _ _ (HSK.out _ hrow11.below hkk11) (fun hHeld => ?_)
        clear hK K
        (try simp only [Act.put, jA, jB, jC, jD, jE, jF])
        refine tZ 12 ?_
        refine wpAnyH_done (by decide +kernel) ?_ _
        clear hHeld
        go_wp2_with fail
        go_meet
        exact ⟨hrow11, hkk11⟩
      ·skip
       obtain ⟨u65, cc8, hrun, hbb8, hB8, hcc8, hmm8, ob8, hx8⟩ := conv_own2 u0 own hosz.out
       obtain ⟨q8, eq8⟩ : ∃ q, Hid (su0 = q) := ⟨_, Lib.hid rfl⟩
       rw [hsu0.out, eq8.out] at hrun hB8 hx8
       rw [hol.out] at hrun hB8 hcc8
       (try simp only [jA, jB, jC])
       go_simp
       clear hrun
       have hu65 : Below u0.heap.size u0 u65 := hbb8
       obtain ⟨su65, hsu65⟩ := sZ u65.heap.size
       have Nu65 : Hid (su0 < su65) := by have h1 := blk_lt hx8; rw [hsu65.out, ← eq8.out] at h1; exact h1
       have F8 := gZ q8
       have Hu65 := Lib.hid (Hu0.out.trans (hu65.mono Hu0.out.size))
       clear hu65
       refine hK.out _ _ (HS.out _ Hu65.out) (fun hHeld => ?_)
       clear hK K
       (try simp only [Act.put, jA, jB, jC, jD, jE, jF])
       refine wpAnyH_ready (rs := [1, 4]) (by decide +kernel) (by simp) ?_
       refine AllReadyH.cons rfl (fun K hK => ?_) (AllReadyH.cons rfl (fun K hK => ?_) AllReadyH.nil)
       ·skip
        (try simp only [jA, jB, jC])
        go_simp
        obtain ⟨u66, eu66⟩ : ∃ V, u65.alloc (Obj.cells #[.int .u8 112] 5) = V := ⟨_, rfl⟩
        have hR1 := BRow.lit Hu65.out #[.int .u8 112] [(112 : UInt8)] rfl (by simp)
        rw [eu66] at hR1
        have hu66 := bZ eu66
        obtain ⟨su66, hsu66⟩ := sZ u66.heap.size
        have Nu66 := lZ eu66 hsu65 hsu66
        rw [eu66]
        rw [hsu65.out] at hR1 ⊢
        have F1 := fZ su65 ([(112 : UInt8)]).length ([(112 : UInt8)]).length
        clear eu66
        have Hu66 := Lib.hid (Hu65.out.trans (hu66.mono Hu65.out.size))
        replace hB8 := hB8.on hu66
        clear hu66
        refine hK.out _ _ (HS.out _ Hu66.out) (fun hHeld => ?_)
        clear hK K
        (try simp only [Act.put, jA, jB, jC, jD, jE, jF])
        refine wpAnyH_ready (rs := [3, 4]) (by decide +kernel) (by simp) ?_
        refine AllReadyH.cons rfl (fun K hK => ?_) (AllReadyH.cons rfl (fun K hK => ?_) AllReadyH.nil)
        ·skip
         refine step_app hR1 _ _ _ (HIB.out _ Hu66.out) HIN.out (by have := HIL.out; simp; omega) rfl _ _ rfl rfl rfl ?_
         rintro v3 u67 hR3 hg3 ho3
         replace hR3 : BRow W3 v3 hd u67 := by have e := HHD.out; rw [e] at hR3; exact hR3
         obtain ⟨su67, hsu67⟩ := sZ u67.heap.size
         have Nu67 := nZ hg3.size hsu66 hsu67
         rw [hsu66.out] at ho3
         have F3 := Lib.hid (app_block ho3 F1.out (fun k h => Nat.lt_of_lt_of_eq (hR3.2.lt k h).2 hsu67.out))
         replace hB8 := hB8.grow hg3 (fun g o e e2 => by have h1 := F8.out g o e; have h2 := F1.out g e2; (try dsimp only at h1 h2); have := Nu65.out; have := eq8.out; have := Nu66.out; have := Nu67.out; omega)
         clear hR1
         obtain ⟨A3, c3, rfl, -⟩ := hR3.byT
         have Hu67 := Lib.hid hR3.1
         clear hg3 ho3
         refine hK.out _ _ (HS.out _ Hu67.out) (fun hHeld => ?_)
         clear hK K
         (try simp only [Act.put, jA, jB, jC, jD, jE, jF])
         refine rZ 4 (fun K hK => ?_)
         (try simp only [jA, jB, jC])
         go_simp
         obtain ⟨u68, eu68⟩ : ∃ V, u67.alloc (Obj.cells #[.int .u8 0] 5) = V := ⟨_, rfl⟩
         have hR4 := BRow.lit Hu67.out #[.int .u8 0] [(0 : UInt8)] rfl (by simp)
         rw [eu68] at hR4
         have hu68 := bZ eu68
         obtain ⟨su68, hsu68⟩ := sZ u68.heap.size
         have Nu68 := lZ eu68 hsu67 hsu68
         rw [eu68]
         rw [hsu67.out] at hR4 ⊢
         have F4 := fZ su67 ([(0 : UInt8)]).length ([(0 : UInt8)]).length
         clear eu68
         have Hu68 := Lib.hid (Hu67.out.trans (hu68.mono Hu67.out.size))
         replace hR3 := hR3.on hu68
         replace hB8 := hB8.on hu68
         clear hu68
         refine hK.out _ _ (HS.out _ Hu68.out) (fun hHeld => ?_)
         clear hK K
         (try simp only [Act.put, jA, jB, jC, jD, jE, jF])
         refine rZ 5 (fun K hK => ?_)
         refine step_app hR3 _ _ _ hR4.bytesAt hR4.bt.2.2.2 (by have := congrArg List.length HHD.out; have h2 := HIL.out; simp at this ⊢; omega) rfl _ _ rfl rfl rfl ?_
         rintro v5 u69 hR5 hg5 ho5
         replace hR5 : BRow W3 v5 key0 u69 := by have e := HK0.out; rw [e] at hR5; exact hR5
         obtain ⟨su69, hsu69⟩ := sZ u69.heap.size
         have Nu69 := nZ hg5.size hsu68 hsu69
         rw [hsu68.out] at ho5
         have F5 := Lib.hid (app_block ho5 F3.out (fun k h => Nat.lt_of_lt_of_eq (hR5.2.lt k h).2 hsu69.out))
         replace hB8 := hB8.grow hg5 (fun g o e e2 => by have h1 := F8.out g o e; have h2 := F3.out g e2; (try dsimp only at h1 h2); have := Nu65.out; have := eq8.out; have := Nu66.out; have := Nu67.out; have := Nu68.out; have := Nu69.out; omega)
         clear hR3 hR4
         obtain ⟨A5, c5, rfl, -⟩ := hR5.byT
         have Hu69 := Lib.hid hR5.1
         clear hg5 ho5
         refine hK.out _ _ (HS.out _ Hu69.out) (fun hHeld => ?_)
         clear hK K
         (try simp only [Act.put, jA, jB, jC, jD, jE, jF])
         refine tZ 9 ?_
         refine rZ 10 (fun K hK => ?_)
         (try simp only [jA, jB, jC])
         go_simp
         obtain ⟨u70, eu70⟩ : ∃ V, u69.alloc (Obj.cells #[.slice A5 key0.length c5, .slice (some ⟨q8, 0, none⟩) ol.length cc8] 39) = V := ⟨_, rfl⟩
         have hu70 := bZ eu70
         have hI10 := heap_alloc_new u69 (Obj.cells #[.slice A5 key0.length c5, .slice (some ⟨q8, 0, none⟩) ol.length cc8] 39 (0, 0))
         rw [eu70] at hI10 ⊢
         obtain ⟨su70, hsu70⟩ := sZ u70.heap.size
         clear eu70
         have Hu70 := Lib.hid (Hu69.out.trans (hu70.mono Hu69.out.size))
         replace hR5 := hR5.on hu70
         replace hB8 := hB8.on hu70
         clear hu70
         refine hK.out _ _ (HS.out _ Hu70.out) (fun hHeld => ?_)
         clear hK K
         (try simp only [Act.put, jA, jB, jC, jD, jE, jF])
         refine rZ 11 (fun K hK => ?_)
         refine step_appI (HV3.out.on Hu70.out) ⟨key0, A5, c5, ol, some ⟨q8, 0, none⟩, cc8⟩ (lone_it hR5.bt.1 hR5.bt.2.1 hR5.bt.2.2.1 hR5.bt.2.2.2 hB8 hcc8 hmm8 (fun e => by cases e)) hI10 rfl hvl.out rfl _ _ rfl rfl _ rfl ?_; rintro v11 u71 hrow11 hk11; have hkk11 := (KeepT.below Hu70.out).trans hk11
         refine hK.out _ _ (HSK.out _ hrow11.below hkk11) (fun hHeld => ?_)
         clear hK K
         (try simp only [Act.put, jA, jB, jC, jD, jE, jF])
         refine tZ 12 ?_
         refine wpAnyH_done (by decide +kernel) ?_ _
         clear hHeld
         go_wp2_with fail
         go_meet
         exact ⟨hrow11, hkk11⟩
        ·skip
         (try simp only [jA, jB, jC])
         go_simp
         obtain ⟨u72, eu72⟩ : ∃ V, u66.alloc (Obj.cells #[.int .u8 0] 5) = V := ⟨_, rfl⟩
         have hR4 := BRow.lit Hu66.out #[.int .u8 0] [(0 : UInt8)] rfl (by simp)
         rw [eu72] at hR4
         have hu72 := bZ eu72
         obtain ⟨su72, hsu72⟩ := sZ u72.heap.size
         have Nu72 := lZ eu72 hsu66 hsu72
         rw [eu72]
         rw [hsu66.out] at hR4 ⊢
         have F4 := fZ su66 ([(0 : UInt8)]).length ([(0 : UInt8)]).length
         clear eu72
         have Hu72 := Lib.hid (Hu66.out.trans (hu72.mono Hu66.out.size))
         replace hR1 := hR1.on hu72
         replace hB8 := hB8.on hu72
         clear hu72
         refine hK.out _ _ (HS.out _ Hu72.out) (fun hHeld => ?_)
         clear hK K
         (try simp only [Act.put, jA, jB, jC, jD, jE, jF])
         refine rZ 3 (fun K hK => ?_)
         refine step_app hR1 _ _ _ (HIB.out _ Hu72.out) HIN.out (by have := HIL.out; simp; omega) rfl _ _ rfl rfl rfl ?_
         rintro v3 u73 hR3 hg3 ho3
         replace hR3 : BRow W3 v3 hd u73 := by have e := HHD.out; rw [e] at hR3; exact hR3
         obtain ⟨su73, hsu73⟩ := sZ u73.heap.size
         have Nu73 := nZ hg3.size hsu72 hsu73
         rw [hsu72.out] at ho3
         have F3 := Lib.hid (app_block ho3 F1.out (fun k h => Nat.lt_of_lt_of_eq (hR3.2.lt k h).2 hsu73.out))
         replace hR4 := hR4.kept hg3 hR3.1 (apartO F4.out F1.out (fun k h1 h2 => by (try dsimp only at h1 h2); have := Nu65.out; have := eq8.out; have := Nu66.out; have := Nu72.out; have := Nu73.out; omega))
         replace hB8 := hB8.grow hg3 (fun g o e e2 => by have h1 := F8.out g o e; have h2 := F1.out g e2; (try dsimp only at h1 h2); have := Nu65.out; have := eq8.out; have := Nu66.out; have := Nu72.out; have := Nu73.out; omega)
         clear hR1
         obtain ⟨A3, c3, rfl, -⟩ := hR3.byT
         have Hu73 := Lib.hid hR3.1
         clear hg3 ho3
         refine hK.out _ _ (HS.out _ Hu73.out) (fun hHeld => ?_)
         clear hK K
         (try simp only [Act.put, jA, jB, jC, jD, jE, jF])
         refine rZ 5 (fun K hK => ?_)
         refine step_app hR3 _ _ _ hR4.bytesAt hR4.bt.2.2.2 (by have := congrArg List.length HHD.out; have h2 := HIL.out; simp at this ⊢; omega) rfl _ _ rfl rfl rfl ?_
         rintro v5 u74 hR5 hg5 ho5
         replace hR5 : BRow W3 v5 key0 u74 := by have e := HK0.out; rw [e] at hR5; exact hR5
         obtain ⟨su74, hsu74⟩ := sZ u74.heap.size
         have Nu74 := nZ hg5.size hsu73 hsu74
         rw [hsu73.out] at ho5
         have F5 := Lib.hid (app_block ho5 F3.out (fun k h => Nat.lt_of_lt_of_eq (hR5.2.lt k h).2 hsu74.out))
         replace hB8 := hB8.grow hg5 (fun g o e e2 => by have h1 := F8.out g o e; have h2 := F3.out g e2; (try dsimp only at h1 h2); have := Nu65.out; have := eq8.out; have := Nu66.out; have := Nu72.out; have := Nu73.out; have := Nu74.out; omega)
         clear hR3 hR4
         obtain ⟨A5, c5, rfl, -⟩ := hR5.byT
         have Hu74 := Lib.hid hR5.1
         clear hg5 ho5
         refine hK.out _ _ (HS.out _ Hu74.out) (fun hHeld => ?_)
         clear hK K
         (try simp only [Act.put, jA, jB, jC, jD, jE, jF])
         refine tZ 9 ?_
         refine rZ 10 (fun K hK => ?_)
         (try simp only [jA, jB, jC])
         go_simp
         obtain ⟨u75, eu75⟩ : ∃ V, u74.alloc (Obj.cells #[.slice A5 key0.length c5, .slice (some ⟨q8, 0, none⟩) ol.length cc8] 39) = V := ⟨_, rfl⟩
         have hu75 := bZ eu75
         have hI10 := heap_alloc_new u74 (Obj.cells #[.slice A5 key0.length c5, .slice (some ⟨q8, 0, none⟩) ol.length cc8] 39 (0, 0))
         rw [eu75] at hI10 ⊢
         obtain ⟨su75, hsu75⟩ := sZ u75.heap.size
         clear eu75
         have Hu75 := Lib.hid (Hu74.out.trans (hu75.mono Hu74.out.size))
         replace hR5 := hR5.on hu75
         replace hB8 := hB8.on hu75
         clear hu75
         refine hK.out _ _ (HS.out _ Hu75.out) (fun hHeld => ?_)
         clear hK K
         (try simp only [Act.put, jA, jB, jC, jD, jE, jF])
         refine rZ 11 (fun K hK => ?_)
         refine step_appI (HV3.out.on Hu75.out) ⟨key0, A5, c5, ol, some ⟨q8, 0, none⟩, cc8⟩ (lone_it hR5.bt.1 hR5.bt.2.1 hR5.bt.2.2.1 hR5.bt.2.2.2 hB8 hcc8 hmm8 (fun e => by cases e)) hI10 rfl hvl.out rfl _ _ rfl rfl _ rfl ?_; rintro v11 u76 hrow11 hk11; have hkk11 := (KeepT.below Hu75.out).trans hk11
         refine hK.out _ _ (HSK.out _ hrow11.below hkk11) (fun hHeld => ?_)
         clear hK K
         (try simp only [Act.put, jA, jB, jC, jD, jE, jF])
         refine tZ 12 ?_
         refine wpAnyH_done (by decide +kernel) ?_ _
         clear hHeld
         go_wp2_with fail
         go_meet
         exact ⟨hrow11, hkk11⟩
       ·skip
        (try simp only [jA, jB, jC])
        go_simp
        obtain ⟨u77, eu77⟩ : ∃ V, u65.alloc (Obj.cells #[.int .u8 0] 5) = V := ⟨_, rfl⟩
        have hR4 := BRow.lit Hu65.out #[.int .u8 0] [(0 : UInt8)] rfl (by simp)
        rw [eu77] at hR4
        have hu77 := bZ eu77
        obtain ⟨su77, hsu77⟩ := sZ u77.heap.size
        have Nu77 := lZ eu77 hsu65 hsu77
        rw [eu77]
        rw [hsu65.out] at hR4 ⊢
        have F4 := fZ su65 ([(0 : UInt8)]).length ([(0 : UInt8)]).length
        clear eu77
        have Hu77 := Lib.hid (Hu65.out.trans (hu77.mono Hu65.out.size))
        replace hB8 := hB8.on hu77
        clear hu77
        refine hK.out _ _ (HS.out _ Hu77.out) (fun hHeld => ?_)
        clear hK K
        (try simp only [Act.put, jA, jB, jC, jD, jE, jF])
        refine rZ 1 (fun K hK => ?_)
        (try simp only [jA, jB, jC])
        go_simp
        obtain ⟨u78, eu78⟩ : ∃ V, u77.alloc (Obj.cells #[.int .u8 112] 5) = V := ⟨_, rfl⟩
        have hR1 := BRow.lit Hu77.out #[.int .u8 112] [(112 : UInt8)] rfl (by simp)
        rw [eu78] at hR1
        have hu78 := bZ eu78
        obtain ⟨su78, hsu78⟩ := sZ u78.heap.size
        have Nu78 := lZ eu78 hsu77 hsu78
        rw [eu78]
        rw [hsu77.out] at hR1 ⊢
        have F1 := fZ su77 ([(112 : UInt8)]).length ([(112 : UInt8)]).length
        clear eu78
        have Hu78 := Lib.hid (Hu77.out.trans (hu78.mono Hu77.out.size))
        replace hR4 := hR4.on hu78
        replace hB8 := hB8.on hu78
        clear hu78
        refine hK.out _ _ (HS.out _ Hu78.out) (fun hHeld => ?_)
        clear hK K
        (try simp only [Act.put, jA, jB, jC, jD, jE, jF])
        refine rZ 3 (fun K hK => ?_)
        refine step_app hR1 _ _ _ (HIB.out _ Hu78.out) HIN.out (by have := HIL.out; simp; omega) rfl _ _ rfl rfl rfl ?_
        rintro v3 u79 hR3 hg3 ho3
        replace hR3 : BRow W3 v3 hd u79 := by have e := HHD.out; rw [e] at hR3; exact hR3
        obtain ⟨su79, hsu79⟩ := sZ u79.heap.size
        have Nu79 := nZ hg3.size hsu78 hsu79
        rw [hsu78.out] at ho3
        have F3 := Lib.hid (app_block ho3 F1.out (fun k h => Nat.lt_of_lt_of_eq (hR3.2.lt k h).2 hsu79.out))
        replace hR4 := hR4.kept hg3 hR3.1 (apartO F4.out F1.out (fun k h1 h2 => by (try dsimp only at h1 h2); have := Nu65.out; have := eq8.out; have := Nu77.out; have := Nu78.out; have := Nu79.out; omega))
        replace hB8 := hB8.grow hg3 (fun g o e e2 => by have h1 := F8.out g o e; have h2 := F1.out g e2; (try dsimp only at h1 h2); have := Nu65.out; have := eq8.out; have := Nu77.out; have := Nu78.out; have := Nu79.out; omega)
        clear hR1
        obtain ⟨A3, c3, rfl, -⟩ := hR3.byT
        have Hu79 := Lib.hid hR3.1
        clear hg3 ho3
        refine hK.out _ _ (HS.out _ Hu79.out) (fun hHeld => ?_)
        clear hK K
        (try simp only [Act.put, jA, jB, jC, jD, jE, jF])
        refine rZ 5 (fun K hK => ?_)
        refine step_app hR3 _ _ _ hR4.bytesAt hR4.bt.2.2.2 (by have := congrArg List.length HHD.out; have h2 := HIL.out; simp at this ⊢; omega) rfl _ _ rfl rfl rfl ?_
        rintro v5 u80 hR5 hg5 ho5
        replace hR5 : BRow W3 v5 key0 u80 := by have e := HK0.out; rw [e] at hR5; exact hR5
        obtain ⟨su80, hsu80⟩ := sZ u80.heap.size
        have Nu80 := nZ hg5.size hsu79 hsu80
        rw [hsu79.out] at ho5
        have F5 := Lib.hid (app_block ho5 F3.out (fun k h => Nat.lt_of_lt_of_eq (hR5.2.lt k h).2 hsu80.out))
        replace hB8 := hB8.grow hg5 (fun g o e e2 => by have h1 := F8.out g o e; have h2 := F3.out g e2; (try dsimp only at h1 h2); have := Nu65.out; have := eq8.out; have := Nu77.out; have := Nu78.out; have := Nu79.out; have := Nu80.out; omega)
        clear hR3 hR4
        obtain ⟨A5, c5, rfl, -⟩ := hR5.byT
        have Hu80 := Lib.hid hR5.1
        clear hg5 ho5
        refine hK.out _ _ (HS.out _ Hu80.out) (fun hHeld => ?_)
        clear hK K
        (try simp only [Act.put, jA, jB, jC, jD, jE, jF])
        refine tZ 9 ?_
        refine rZ 10 (fun K hK => ?_)
        (try simp only [jA, jB, jC])
        go_simp
        obtain ⟨u81, eu81⟩ : ∃ V, u80.alloc (Obj.cells #[.slice A5 key0.length c5, .slice (some ⟨q8, 0, none⟩) ol.length cc8] 39) = V := ⟨_, rfl⟩
        have hu81 := bZ eu81
        have hI10 := heap_alloc_new u80 (Obj.cells #[.slice A5 key0.length c5, .slice (some ⟨q8, 0, none⟩) ol.length cc8] 39 (0, 0))
        rw [eu81] at hI10 ⊢
        obtain ⟨su81, hsu81⟩ := sZ u81.heap.size
        clear eu81
        have Hu81 := Lib.hid (Hu80.out.trans (hu81.mono Hu80.out.size))
        replace hR5 := hR5.on hu81
        replace hB8 := hB8.on hu81
        clear hu81
        refine hK.out _ _ (HS.out _ Hu81.out) (fun hHeld => ?_)
        clear hK K
        (try simp only [Act.put, jA, jB, jC, jD, jE, jF])
        refine rZ 11 (fun K hK => ?_)
        refine step_appI (HV3.out.on Hu81.out) ⟨key0, A5, c5, ol, some ⟨q8, 0, none⟩, cc8⟩ (lone_it hR5.bt.1 hR5.bt.2.1 hR5.bt.2.2.1 hR5.bt.2.2.2 hB8 hcc8 hmm8 (fun e => by cases e)) hI10 rfl hvl.out rfl _ _ rfl rfl _ rfl ?_; rintro v11 u82 hrow11 hk11; have hkk11 := (KeepT.below Hu81.out).trans hk11
        refine hK.out _ _ (HSK.out _ hrow11.below hkk11) (fun hHeld => ?_)
        clear hK K
        (try simp only [Act.put, jA, jB, jC, jD, jE, jF])
        refine tZ 12 ?_
        refine wpAnyH_done (by decide +kernel) ?_ _
        clear hHeld
        go_wp2_with fail
        go_meet
        exact ⟨hrow11, hkk11⟩
     case rest =>
      obtain ⟨hr11, hk11⟩ := hcut
      have HN4 := Lib.hid (HN3.out.keepT hr11.below hk11 (by simp))
      have HI4 := Lib.hid (And.intro (HI7.out.1.keep hk11 (by decide)) HI7.out.2)
      rw [← HP0.out] at hr11
      have HR4 := Lib.hid hr11
      have HCK5 := Lib.hid (fun (j : Nat) (hj : 16 * j < ps.length) W (hb : Below w.heap.size w W) => dchunk_any ps xA xc j hj (by have := HP3.out; omega) HP4.out W (HPT.out W hb))
      have hp128 := HP3.out
      clear hr11 hk11 HS HSK HIB hosz HV3 HN3 HI7 HP0 hvl
      go_wp2_with fail
      go_loopg [3, 8] (nch ps.length) (fun g v i wr => ∃ j : Nat, j ≤ nch ps.length ∧ g = nch ps.length - j ∧ i = .int .i64 (j : Int) ∧ Hold w [(g6, #[.int .i64 id, .slice xA ps.length xc, .string own], 58), (g1, #[.slice Ao o.length co, .slice (some ad) l.length cp], 26)] wr ∧ ByT wr A7 idk ∧ ItRow w v (L0 ++ pl.take (j + 1)) wr)
      case atStart => exact ⟨0, Nat.zero_le _, rfl, rfl, HN4.out, HI4.out.1, HR4.out⟩
      case round =>
       obtain ⟨j, hj, hgj, rfl, HB5, hI5, hR5⟩ := hrel
       have HGJ := Lib.hid hgj
       clear hgj
       have hnc5 := nch_le hp128
       have w5 : IntKind.i64.wrap (16 * (j : Int)) = 16 * (j : Int) := IntWalk.i64_in _ (by omega)
       have x1 := HB5.cell (.head _) 1
       simp only [List.getElem?_toArray, List.getElem?_cons_zero, List.getElem?_cons_succ] at x1
       by_cases hlt5 : j < nch ps.length
       ·have hjl : 16 * j < ps.length := by unfold nch at hlt5; omega
        have b5 : 16 * (j : Int) < (ps.length : Int) := by omega
        have hj0 : IntKind.i64.wrap ((j : Int) + 1) = (j : Int) + 1 := IntWalk.i64_in _ (by omega)
        have hu5 := u8_nat (j + 1) (by omega)
        rw [show ((j + 1 : Nat) : Int) = (j : Int) + 1 by omega] at hu5
        have hT5 := Lib.hid (HPS.out j hlt5)
        have hvl5 : Hid ((L0 ++ pl.take (j + 1)).length + 1 ≤ 1000000) := by have := hbd.out; have := HPN.out; unfold Hid; rw [List.length_append, List.length_take]; omega
        have HCK := Lib.hid (fun W (hb : Below wr.heap.size wr W) => HCK5.out j hjl W (HB5.1.trans (hb.mono HB5.1.size)))
        obtain ⟨kk, hkk⟩ : ∃ i, hd ++ [UInt8.ofNat (j + 1)] = i := ⟨_, rfl⟩
        obtain ⟨kb, hkb⟩ : ∃ i, UInt8.ofNat (j + 1) = i := ⟨_, rfl⟩
        obtain ⟨cb, hcb⟩ : ∃ i, ptsB (chk ps j) = i := ⟨_, rfl⟩
        simp only [hcb] at HCK
        rw [hkk, hcb] at hT5
        rw [hkb] at hu5 hkk
        have HKK := Lib.hid hkk
        have HNB := Lib.hid HB5
        have HV5 := Lib.hid hR5
        have HIB := Lib.hid (fun W (h : Below wr.heap.size wr W) => (hI5.on h).bytes)
        have HI5 := Lib.hid hI5
        have HSK : Hid (∀ W, Below w.heap.size w W → KeepT 39 wr W → W.cell? ⟨g6, 1, none⟩ = some (.slice xA ps.length xc)) := fun W hb hk => by
         have := (HNB.out.keepT hb hk (by simp)).cell (.head _) 1
         simpa using this
        have HS := Lib.hid (fun W (h : Below wr.heap.size wr W) => HSK.out W (HNB.out.1.trans (h.mono HNB.out.1.size)) (KeepT.below h))
        clear hkk hkb hcb hI5 hR5 HB5 hjl
        go_upto_region 15 with (fail)
        clear x1
        refine wp_region_held_drew (S := fun W => W.cell? ⟨g6, 1, none⟩ = some (.slice xA ps.length xc)) (by kernel_rfl) (HS.out _ (Below.refl _ wr).drew) (fun hHeld => ?_)
        obtain ⟨u0, hu0⟩ : ∃ u, wr.drew = u := ⟨_, rfl⟩
        rw [hu0] at hHeld ⊢
        have Hu0 : Hid (Below wr.heap.size wr u0) := by rw [← hu0]; exact (Below.refl _ wr).drew
        obtain ⟨su0, hsu0⟩ : ∃ s, Hid (u0.heap.size = s) := ⟨_, Lib.hid rfl⟩
        clear hu0
        refine tZ 0 ?_; refine tZ 2 ?_; refine tZ 4 ?_; refine tZ 9 ?_; refine tZ 11 ?_; refine tZ 5 ?_; refine tZ 10 ?_; refine tZ 6 ?_
        refine wpAnyH_ready (rs := [1, 7]) (by decide +kernel) (by simp) ?_
        refine AllReadyH.cons rfl (fun K hK => ?_) (AllReadyH.cons rfl (fun K hK => ?_) AllReadyH.nil)
        ·skip
         (try simp only [jA, jB, jC])
         go_simp
         obtain ⟨u1, eu1⟩ : ∃ V, u0.alloc (Obj.cells #[.int .u8 112] 5) = V := ⟨_, rfl⟩
         have hR1 := BRow.lit Hu0.out #[.int .u8 112] [(112 : UInt8)] rfl (by simp)
         rw [eu1] at hR1
         have hu1 := bZ eu1
         obtain ⟨su1, hsu1⟩ := sZ u1.heap.size
         have Nu1 := lZ eu1 hsu0 hsu1
         rw [eu1]
         rw [hsu0.out] at hR1 ⊢
         have F1 := fZ su0 ([(112 : UInt8)]).length ([(112 : UInt8)]).length
         clear eu1
         have Hu1 := Lib.hid (Hu0.out.trans (hu1.mono Hu0.out.size))
         clear hu1
         refine hK.out _ _ (HS.out _ Hu1.out) (fun hHeld => ?_)
         clear hK K
         (try simp only [Act.put, jA, jB, jC, jD, jE, jF])
         refine wpAnyH_ready (rs := [3, 7]) (by decide +kernel) (by simp) ?_
         refine AllReadyH.cons rfl (fun K hK => ?_) (AllReadyH.cons rfl (fun K hK => ?_) AllReadyH.nil)
         ·skip
          refine step_app hR1 _ _ _ (HIB.out _ Hu1.out) HIN.out (by have := HIL.out; simp; omega) rfl _ _ rfl rfl rfl ?_
          rintro v3 u2 hR3 hg3 ho3
          replace hR3 : BRow wr v3 hd u2 := by have e := HHD.out; rw [e] at hR3; exact hR3
          obtain ⟨su2, hsu2⟩ := sZ u2.heap.size
          have Nu2 := nZ hg3.size hsu1 hsu2
          rw [hsu1.out] at ho3
          have F3 := Lib.hid (app_block ho3 F1.out (fun k h => Nat.lt_of_lt_of_eq (hR3.2.lt k h).2 hsu2.out))
          clear hR1
          obtain ⟨A3, c3, rfl, -⟩ := hR3.byT
          have Hu2 := Lib.hid hR3.1
          clear hg3 ho3
          refine hK.out _ _ (HS.out _ Hu2.out) (fun hHeld => ?_)
          clear hK K
          (try simp only [Act.put, jA, jB, jC, jD, jE, jF])
          refine rZ 7 (fun K hK => ?_)
          (try simp only [jA, jB, jC])
          go_simp
          obtain ⟨u3, eu3⟩ : ∃ V, u2.alloc (Obj.cells #[.int .u8 ((kb.toNat : Nat) : Int)] 5) = V := ⟨_, rfl⟩
          have hR7 := BRow.lit Hu2.out #[.int .u8 ((kb.toNat : Nat) : Int)] [kb] rfl (by simp)
          rw [eu3] at hR7
          have hu3 := bZ eu3
          obtain ⟨su3, hsu3⟩ := sZ u3.heap.size
          have Nu3 := lZ eu3 hsu2 hsu3
          rw [eu3]
          rw [hsu2.out] at hR7 ⊢
          have F7 := fZ su2 ([kb]).length ([kb]).length
          clear eu3
          have Hu3 := Lib.hid (Hu2.out.trans (hu3.mono Hu2.out.size))
          replace hR3 := hR3.on hu3
          clear hu3
          refine hK.out _ _ (HS.out _ Hu3.out) (fun hHeld => ?_)
          clear hK K
          (try simp only [Act.put, jA, jB, jC, jD, jE, jF])
          refine rZ 8 (fun K hK => ?_)
          refine step_app hR3 _ _ _ hR7.bytesAt hR7.bt.2.2.2 (by have := congrArg List.length HHD.out; have h2 := HIL.out; simp at this ⊢; omega) rfl _ _ rfl rfl rfl ?_
          rintro v8 u4 hR8 hg8 ho8
          replace hR8 : BRow wr v8 kk u4 := by have e := HKK.out; rw [e] at hR8; exact hR8
          obtain ⟨su4, hsu4⟩ := sZ u4.heap.size
          have Nu4 := nZ hg8.size hsu3 hsu4
          rw [hsu3.out] at ho8
          have F8 := Lib.hid (app_block ho8 F3.out (fun k h => Nat.lt_of_lt_of_eq (hR8.2.lt k h).2 hsu4.out))
          clear hR3 hR7
          obtain ⟨A8, c8, rfl, -⟩ := hR8.byT
          have Hu4 := Lib.hid hR8.1
          clear hg8 ho8
          refine hK.out _ _ (HS.out _ Hu4.out) (fun hHeld => ?_)
          clear hK K
          (try simp only [Act.put, jA, jB, jC, jD, jE, jF])
          refine rZ 12 (fun K hK => ?_)
          (try simp only [jA, jB, jC])
          go_simp
          (go_at_call 40; refine (HCK.out u4 Hu4.out).mono ?_; rintro e' u5 ⟨v12, rfl, hc12⟩)
          have hu5 := hc12.1
          obtain ⟨su5, hsu5⟩ := sZ u5.heap.size
          have Nu5 := nZ hu5.size hsu4 hsu5
          have F12 : Hid (∀ k, v12.ownBlock = some k → su4 ≤ k ∧ k < su5) := fun k h => by have := hc12.2.lt k h; rw [hsu4.out, hsu5.out] at this; exact this
          have hR12 := hc12.base Hu4.out
          obtain ⟨A12, c12, rfl, -⟩ := hR12.byT
          clear hc12
          have Hu5 := Lib.hid (Hu4.out.trans (hu5.mono Hu4.out.size))
          replace hR8 := hR8.on hu5
          clear hu5
          refine hK.out _ _ (HS.out _ Hu5.out) (fun hHeld => ?_)
          clear hK K
          (try simp only [Act.put, jA, jB, jC, jD, jE, jF])
          refine tZ 13 ?_
          refine rZ 14 (fun K hK => ?_)
          (try simp only [jA, jB, jC])
          go_simp
          obtain ⟨u6, eu6⟩ : ∃ V, u5.alloc (Obj.cells #[.slice A8 kk.length c8, .slice A12 cb.length c12] 39) = V := ⟨_, rfl⟩
          have hu6 := bZ eu6
          have hI14 := heap_alloc_new u5 (Obj.cells #[.slice A8 kk.length c8, .slice A12 cb.length c12] 39 (0, 0))
          rw [eu6] at hI14 ⊢
          obtain ⟨su6, hsu6⟩ := sZ u6.heap.size
          clear eu6
          have Hu6 := Lib.hid (Hu5.out.trans (hu6.mono Hu5.out.size))
          replace hR8 := hR8.on hu6
          replace hR12 := hR12.on hu6
          clear hu6
          refine hK.out _ _ (HS.out _ Hu6.out) (fun hHeld => ?_)
          clear hK K
          (try simp only [Act.put, jA, jB, jC, jD, jE, jF])
          refine rZ 15 (fun K hK => ?_)
          refine step_appI (HV5.out.on Hu6.out) ⟨kk, A8, c8, cb, A12, c12⟩ (lone_it hR8.bt.1 hR8.bt.2.1 hR8.bt.2.2.1 hR8.bt.2.2.2 hR12.bt.1 hR12.bt.2.1 hR12.bt.2.2.1 hR12.bt.2.2.2) hI14 rfl hvl5.out rfl _ _ rfl rfl _ rfl ?_; rintro v15 u7 hrow15 hk15; have hkk15 := (KeepT.below Hu6.out).trans hk15
          refine hK.out _ _ (HSK.out _ hrow15.below hkk15) (fun hHeld => ?_)
          clear hK K
          (try simp only [Act.put, jA, jB, jC, jD, jE, jF])
          refine tZ 16 ?_
          refine wpAnyH_done (by decide +kernel) ?_ _
          clear hHeld
          have HN6 := Lib.hid (HNB.out.keepT hrow15.below hkk15 (by simp))
          have HI6 := Lib.hid (HI5.out.keep hkk15 (by decide))
          have hr15 : ItRow w v15 ((L0 ++ pl.take (j + 1)) ++ [(kk, cb)]) _ := hrow15
          rw [List.append_assoc, ← hT5.out] at hr15
          have HR6 := Lib.hid hr15
          clear hr15 hrow15 hk15 hkk15 HS HSK HIB HCK
          go_wp2
          go_roundg (nch ps.length - (j + 1))
          case measure => have := HGJ.out; omega
          case rel => exact ⟨j + 1, by omega, rfl, by go_num, HN6.out, HI6.out, HR6.out⟩
         ·skip
          (try simp only [jA, jB, jC])
          go_simp
          obtain ⟨u8, eu8⟩ : ∃ V, u1.alloc (Obj.cells #[.int .u8 ((kb.toNat : Nat) : Int)] 5) = V := ⟨_, rfl⟩
          have hR7 := BRow.lit Hu1.out #[.int .u8 ((kb.toNat : Nat) : Int)] [kb] rfl (by simp)
          rw [eu8] at hR7
          have hu8 := bZ eu8
          obtain ⟨su8, hsu8⟩ := sZ u8.heap.size
          have Nu8 := lZ eu8 hsu1 hsu8
          rw [eu8]
          rw [hsu1.out] at hR7 ⊢
          have F7 := fZ su1 ([kb]).length ([kb]).length
          clear eu8
          have Hu8 := Lib.hid (Hu1.out.trans (hu8.mono Hu1.out.size))
          replace hR1 := hR1.on hu8
          clear hu8
          refine hK.out _ _ (HS.out _ Hu8.out) (fun hHeld => ?_)
          clear hK K
          (try simp only [Act.put, jA, jB, jC, jD, jE, jF])
          refine rZ 3 (fun K hK => ?_)
          refine step_app hR1 _ _ _ (HIB.out _ Hu8.out) HIN.out (by have := HIL.out; simp; omega) rfl _ _ rfl rfl rfl ?_
          rintro v3 u9 hR3 hg3 ho3
          replace hR3 : BRow wr v3 hd u9 := by have e := HHD.out; rw [e] at hR3; exact hR3
          obtain ⟨su9, hsu9⟩ := sZ u9.heap.size
          have Nu9 := nZ hg3.size hsu8 hsu9
          rw [hsu8.out] at ho3
          have F3 := Lib.hid (app_block ho3 F1.out (fun k h => Nat.lt_of_lt_of_eq (hR3.2.lt k h).2 hsu9.out))
          replace hR7 := hR7.kept hg3 hR3.1 (apartO F7.out F1.out (fun k h1 h2 => by (try dsimp only at h1 h2); have := Nu1.out; have := Nu8.out; have := Nu9.out; omega))
          clear hR1
          obtain ⟨A3, c3, rfl, -⟩ := hR3.byT
          have Hu9 := Lib.hid hR3.1
          clear hg3 ho3
          refine hK.out _ _ (HS.out _ Hu9.out) (fun hHeld => ?_)
          clear hK K
          (try simp only [Act.put, jA, jB, jC, jD, jE, jF])
          refine rZ 8 (fun K hK => ?_)
          refine step_app hR3 _ _ _ hR7.bytesAt hR7.bt.2.2.2 (by have := congrArg List.length HHD.out; have h2 := HIL.out; simp at this ⊢; omega) rfl _ _ rfl rfl rfl ?_
          rintro v8 u10 hR8 hg8 ho8
          replace hR8 : BRow wr v8 kk u10 := by have e := HKK.out; rw [e] at hR8; exact hR8
          obtain ⟨su10, hsu10⟩ := sZ u10.heap.size
          have Nu10 := nZ hg8.size hsu9 hsu10
          rw [hsu9.out] at ho8
          have F8 := Lib.hid (app_block ho8 F3.out (fun k h => Nat.lt_of_lt_of_eq (hR8.2.lt k h).2 hsu10.out))
          clear hR3 hR7
          obtain ⟨A8, c8, rfl, -⟩ := hR8.byT
          have Hu10 := Lib.hid hR8.1
          clear hg8 ho8
          refine hK.out _ _ (HS.out _ Hu10.out) (fun hHeld => ?_)
          clear hK K
          (try simp only [Act.put, jA, jB, jC, jD, jE, jF])
          refine rZ 12 (fun K hK => ?_)
          (try simp only [jA, jB, jC])
          go_simp
          (go_at_call 40; refine (HCK.out u10 Hu10.out).mono ?_; rintro e' u11 ⟨v12, rfl, hc12⟩)
          have hu11 := hc12.1
          obtain ⟨su11, hsu11⟩ := sZ u11.heap.size
          have Nu11 := nZ hu11.size hsu10 hsu11
          have F12 : Hid (∀ k, v12.ownBlock = some k → su10 ≤ k ∧ k < su11) := fun k h => by have := hc12.2.lt k h; rw [hsu10.out, hsu11.out] at this; exact this
          have hR12 := hc12.base Hu10.out
          obtain ⟨A12, c12, rfl, -⟩ := hR12.byT
          clear hc12
          have Hu11 := Lib.hid (Hu10.out.trans (hu11.mono Hu10.out.size))
          replace hR8 := hR8.on hu11
          clear hu11
          refine hK.out _ _ (HS.out _ Hu11.out) (fun hHeld => ?_)
          clear hK K
          (try simp only [Act.put, jA, jB, jC, jD, jE, jF])
          refine tZ 13 ?_
          refine rZ 14 (fun K hK => ?_)
          (try simp only [jA, jB, jC])
          go_simp
          obtain ⟨u12, eu12⟩ : ∃ V, u11.alloc (Obj.cells #[.slice A8 kk.length c8, .slice A12 cb.length c12] 39) = V := ⟨_, rfl⟩
          have hu12 := bZ eu12
          have hI14 := heap_alloc_new u11 (Obj.cells #[.slice A8 kk.length c8, .slice A12 cb.length c12] 39 (0, 0))
          rw [eu12] at hI14 ⊢
          obtain ⟨su12, hsu12⟩ := sZ u12.heap.size
          clear eu12
          have Hu12 := Lib.hid (Hu11.out.trans (hu12.mono Hu11.out.size))
          replace hR8 := hR8.on hu12
          replace hR12 := hR12.on hu12
          clear hu12
          refine hK.out _ _ (HS.out _ Hu12.out) (fun hHeld => ?_)
          clear hK K
          (try simp only [Act.put, jA, jB, jC, jD, jE, jF])
          refine rZ 15 (fun K hK => ?_)
          refine step_appI (HV5.out.on Hu12.out) ⟨kk, A8, c8, cb, A12, c12⟩ (lone_it hR8.bt.1 hR8.bt.2.1 hR8.bt.2.2.1 hR8.bt.2.2.2 hR12.bt.1 hR12.bt.2.1 hR12.bt.2.2.1 hR12.bt.2.2.2) hI14 rfl hvl5.out rfl _ _ rfl rfl _ rfl ?_; rintro v15 u13 hrow15 hk15; have hkk15 := (KeepT.below Hu12.out).trans hk15
          refine hK.out _ _ (HSK.out _ hrow15.below hkk15) (fun hHeld => ?_)
          clear hK K
          (try simp only [Act.put, jA, jB, jC, jD, jE, jF])
          refine tZ 16 ?_
          refine wpAnyH_done (by decide +kernel) ?_ _
          clear hHeld
          have HN6 := Lib.hid (HNB.out.keepT hrow15.below hkk15 (by simp))
          have HI6 := Lib.hid (HI5.out.keep hkk15 (by decide))
          have hr15 : ItRow w v15 ((L0 ++ pl.take (j + 1)) ++ [(kk, cb)]) _ := hrow15
          rw [List.append_assoc, ← hT5.out] at hr15
          have HR6 := Lib.hid hr15
          clear hr15 hrow15 hk15 hkk15 HS HSK HIB HCK
          go_wp2
          go_roundg (nch ps.length - (j + 1))
          case measure => have := HGJ.out; omega
          case rel => exact ⟨j + 1, by omega, rfl, by go_num, HN6.out, HI6.out, HR6.out⟩
        ·skip
         (try simp only [jA, jB, jC])
         go_simp
         obtain ⟨u14, eu14⟩ : ∃ V, u0.alloc (Obj.cells #[.int .u8 ((kb.toNat : Nat) : Int)] 5) = V := ⟨_, rfl⟩
         have hR7 := BRow.lit Hu0.out #[.int .u8 ((kb.toNat : Nat) : Int)] [kb] rfl (by simp)
         rw [eu14] at hR7
         have hu14 := bZ eu14
         obtain ⟨su14, hsu14⟩ := sZ u14.heap.size
         have Nu14 := lZ eu14 hsu0 hsu14
         rw [eu14]
         rw [hsu0.out] at hR7 ⊢
         have F7 := fZ su0 ([kb]).length ([kb]).length
         clear eu14
         have Hu14 := Lib.hid (Hu0.out.trans (hu14.mono Hu0.out.size))
         clear hu14
         refine hK.out _ _ (HS.out _ Hu14.out) (fun hHeld => ?_)
         clear hK K
         (try simp only [Act.put, jA, jB, jC, jD, jE, jF])
         refine rZ 1 (fun K hK => ?_)
         (try simp only [jA, jB, jC])
         go_simp
         obtain ⟨u15, eu15⟩ : ∃ V, u14.alloc (Obj.cells #[.int .u8 112] 5) = V := ⟨_, rfl⟩
         have hR1 := BRow.lit Hu14.out #[.int .u8 112] [(112 : UInt8)] rfl (by simp)
         rw [eu15] at hR1
         have hu15 := bZ eu15
         obtain ⟨su15, hsu15⟩ := sZ u15.heap.size
         have Nu15 := lZ eu15 hsu14 hsu15
         rw [eu15]
         rw [hsu14.out] at hR1 ⊢
         have F1 := fZ su14 ([(112 : UInt8)]).length ([(112 : UInt8)]).length
         clear eu15
         have Hu15 := Lib.hid (Hu14.out.trans (hu15.mono Hu14.out.size))
         replace hR7 := hR7.on hu15
         clear hu15
         refine hK.out _ _ (HS.out _ Hu15.out) (fun hHeld => ?_)
         clear hK K
         (try simp only [Act.put, jA, jB, jC, jD, jE, jF])
         refine rZ 3 (fun K hK => ?_)
         refine step_app hR1 _ _ _ (HIB.out _ Hu15.out) HIN.out (by have := HIL.out; simp; omega) rfl _ _ rfl rfl rfl ?_
         rintro v3 u16 hR3 hg3 ho3
         replace hR3 : BRow wr v3 hd u16 := by have e := HHD.out; rw [e] at hR3; exact hR3
         obtain ⟨su16, hsu16⟩ := sZ u16.heap.size
         have Nu16 := nZ hg3.size hsu15 hsu16
         rw [hsu15.out] at ho3
         have F3 := Lib.hid (app_block ho3 F1.out (fun k h => Nat.lt_of_lt_of_eq (hR3.2.lt k h).2 hsu16.out))
         replace hR7 := hR7.kept hg3 hR3.1 (apartO F7.out F1.out (fun k h1 h2 => by (try dsimp only at h1 h2); have := Nu14.out; have := Nu15.out; have := Nu16.out; omega))
         clear hR1
         obtain ⟨A3, c3, rfl, -⟩ := hR3.byT
         have Hu16 := Lib.hid hR3.1
         clear hg3 ho3
         refine hK.out _ _ (HS.out _ Hu16.out) (fun hHeld => ?_)
         clear hK K
         (try simp only [Act.put, jA, jB, jC, jD, jE, jF])
         refine rZ 8 (fun K hK => ?_)
         refine step_app hR3 _ _ _ hR7.bytesAt hR7.bt.2.2.2 (by have := congrArg List.length HHD.out; have h2 := HIL.out; simp at this ⊢; omega) rfl _ _ rfl rfl rfl ?_
         rintro v8 u17 hR8 hg8 ho8
         replace hR8 : BRow wr v8 kk u17 := by have e := HKK.out; rw [e] at hR8; exact hR8
         obtain ⟨su17, hsu17⟩ := sZ u17.heap.size
         have Nu17 := nZ hg8.size hsu16 hsu17
         rw [hsu16.out] at ho8
         have F8 := Lib.hid (app_block ho8 F3.out (fun k h => Nat.lt_of_lt_of_eq (hR8.2.lt k h).2 hsu17.out))
         clear hR3 hR7
         obtain ⟨A8, c8, rfl, -⟩ := hR8.byT
         have Hu17 := Lib.hid hR8.1
         clear hg8 ho8
         refine hK.out _ _ (HS.out _ Hu17.out) (fun hHeld => ?_)
         clear hK K
         (try simp only [Act.put, jA, jB, jC, jD, jE, jF])
         refine rZ 12 (fun K hK => ?_)
         (try simp only [jA, jB, jC])
         go_simp
         (go_at_call 40; refine (HCK.out u17 Hu17.out).mono ?_; rintro e' u18 ⟨v12, rfl, hc12⟩)
         have hu18 := hc12.1
         obtain ⟨su18, hsu18⟩ := sZ u18.heap.size
         have Nu18 := nZ hu18.size hsu17 hsu18
         have F12 : Hid (∀ k, v12.ownBlock = some k → su17 ≤ k ∧ k < su18) := fun k h => by have := hc12.2.lt k h; rw [hsu17.out, hsu18.out] at this; exact this
         have hR12 := hc12.base Hu17.out
         obtain ⟨A12, c12, rfl, -⟩ := hR12.byT
         clear hc12
         have Hu18 := Lib.hid (Hu17.out.trans (hu18.mono Hu17.out.size))
         replace hR8 := hR8.on hu18
         clear hu18
         refine hK.out _ _ (HS.out _ Hu18.out) (fun hHeld => ?_)
         clear hK K
         (try simp only [Act.put, jA, jB, jC, jD, jE, jF])
         refine tZ 13 ?_
         refine rZ 14 (fun K hK => ?_)
         (try simp only [jA, jB, jC])
         go_simp
         obtain ⟨u19, eu19⟩ : ∃ V, u18.alloc (Obj.cells #[.slice A8 kk.length c8, .slice A12 cb.length c12] 39) = V := ⟨_, rfl⟩
         have hu19 := bZ eu19
         have hI14 := heap_alloc_new u18 (Obj.cells #[.slice A8 kk.length c8, .slice A12 cb.length c12] 39 (0, 0))
         rw [eu19] at hI14 ⊢
         obtain ⟨su19, hsu19⟩ := sZ u19.heap.size
         clear eu19
         have Hu19 := Lib.hid (Hu18.out.trans (hu19.mono Hu18.out.size))
         replace hR8 := hR8.on hu19
         replace hR12 := hR12.on hu19
         clear hu19
         refine hK.out _ _ (HS.out _ Hu19.out) (fun hHeld => ?_)
         clear hK K
         (try simp only [Act.put, jA, jB, jC, jD, jE, jF])
         refine rZ 15 (fun K hK => ?_)
         refine step_appI (HV5.out.on Hu19.out) ⟨kk, A8, c8, cb, A12, c12⟩ (lone_it hR8.bt.1 hR8.bt.2.1 hR8.bt.2.2.1 hR8.bt.2.2.2 hR12.bt.1 hR12.bt.2.1 hR12.bt.2.2.1 hR12.bt.2.2.2) hI14 rfl hvl5.out rfl _ _ rfl rfl _ rfl ?_; rintro v15 u20 hrow15 hk15; have hkk15 := (KeepT.below Hu19.out).trans hk15
         refine hK.out _ _ (HSK.out _ hrow15.below hkk15) (fun hHeld => ?_)
         clear hK K
         (try simp only [Act.put, jA, jB, jC, jD, jE, jF])
         refine tZ 16 ?_
         refine wpAnyH_done (by decide +kernel) ?_ _
         clear hHeld
         have HN6 := Lib.hid (HNB.out.keepT hrow15.below hkk15 (by simp))
         have HI6 := Lib.hid (HI5.out.keep hkk15 (by decide))
         have hr15 : ItRow w v15 ((L0 ++ pl.take (j + 1)) ++ [(kk, cb)]) _ := hrow15
         rw [List.append_assoc, ← hT5.out] at hr15
         have HR6 := Lib.hid hr15
         clear hr15 hrow15 hk15 hkk15 HS HSK HIB HCK
         go_wp2
         go_roundg (nch ps.length - (j + 1))
         case measure => have := HGJ.out; omega
         case rel => exact ⟨j + 1, by omega, rfl, by go_num, HN6.out, HI6.out, HR6.out⟩
       ·obtain rfl : j = nch ps.length := by omega
        have b5 : ¬ 16 * ((nch ps.length : Nat) : Int) < (ps.length : Int) := by unfold nch; omega
        rw [List.take_of_length_le (by rw [HPN.out]; exact Nat.le_refl _)] at hR5
        have HNB := Lib.hid HB5
        have HI5 := Lib.hid hI5
        have HV5 := Lib.hid hR5
        have hEC := Lib.hid (ref_edges ps xA xc (by omega) wr (HPT.out wr HB5.1))
        clear HB5 hI5 hR5 HCK5 HPS
        go_upto_region 17 with (go_at_call 36; go_must ((with_reducible refine hEC.out.mono ?_); rintro e' W6 ⟨v6, rfl, hR6⟩; have HN6 := Lib.hid (HNB.out.on hR6.1); have HI6 := Lib.hid (HI5.out.on hR6.1); have HV6 := Lib.hid (HV5.out.on hR6.1); have hR60 := RowI.base6 hR6 HNB.out.1; obtain ⟨A9, c9, rfl, -⟩ := hR60.items; have HE6 := Lib.hid hR60; clear hR6 hR60))
        have HEN := Lib.hid (edg_len ps)
        have hEQ := fun j (hj : j < ps.length) => HEL.out j hj
        have HELN : Hid ((edgL ⟨id, ps, own⟩).length = ps.length) := by unfold Hid edgL; rw [List.length_map, edg_len]
        generalize edgL ⟨id, ps, own⟩ = el at *
        have HEQ := Lib.hid hEQ
        clear hEQ HEL hEC HV5 HI5 HNB x1 b5 w5 hnc5 hlt5
        go_wp2_with fail
        go_loopg [3, 10] ps.length (fun g v i wr => ∃ j : Nat, j ≤ ps.length ∧ g = ps.length - j ∧ i = .int .i64 (j : Int) ∧ Hold w [(g6, #[.int .i64 id, .slice xA ps.length xc, .string own], 58), (g1, #[.slice Ao o.length co, .slice (some ad) l.length cp], 26)] wr ∧ ByT wr A7 idk ∧ RowI w 76 4 encG (.slice A9 (edg ps).length c9) (edg ps) wr ∧ ItRow w v (L0 ++ pl ++ el.take j) wr)
        case atStart => exact ⟨0, Nat.zero_le _, rfl, rfl, HN6.out, HI6.out, HE6.out, by rw [List.take_zero, List.append_nil]; exact HV6.out⟩
        case round =>
         obtain ⟨j, hj, hgj, rfl, HB5, hI5, hE5, hR5⟩ := hrel
         have HGJ := Lib.hid hgj
         have hEN := HEN.out
         clear hgj
         by_cases hlt5 : j < ps.length
         ·have b4 : (0 : Int) ≤ (j : Int) := by omega
          have b5 : (j : Int) < ((edg ps).length : Int) := by omega
          have hj0 : IntKind.i64.wrap ((j : Int) + 1) = (j : Int) + 1 := IntWalk.i64_in _ (by omega)
          have hT5 := Lib.hid (HEQ.out j hlt5)
          have hvl5 : Hid ((L0 ++ pl ++ el.take j).length + 1 ≤ 1000000) := by have := hbd.out; have := HELN.out; unfold Hid; rw [List.length_append, List.length_append, List.length_take]; omega
          have HNB := Lib.hid HB5
          have HI5 := Lib.hid hI5
          have HE5 := Lib.hid hE5
          have HV5 := Lib.hid hR5
          have ga := HP4.out _ (nx_memR (show 0 < ps.length by omega) j)
          have gb := HP4.out _ (nx_memR (show 0 < ps.length by omega) (j + 1))
          have hje : j < (edg ps).length := by omega
          have hej : (edg ps)[j] = (nx ps j, nx ps (j + 1)) := by simp [edg]
          obtain ⟨ad9, e9, -, -, -⟩ := hE5.full.1.at kindG.len hje
          subst e9
          have HSK : Hid (∀ W, Below w.heap.size w W → KeepT 39 wr W → W.cell? (ad9.add (j * 4)) = some (.int .i64 (nx ps j).1) ∧ W.cell? ⟨(ad9.add (j * 4)).block, (ad9.add (j * 4)).off + 1, none⟩ = some (.int .i64 (nx ps j).2) ∧ W.cell? ⟨(ad9.add (j * 4)).block, (ad9.add (j * 4)).off + 2, none⟩ = some (.int .i64 (nx ps (j + 1)).1) ∧ W.cell? ⟨(ad9.add (j * 4)).block, (ad9.add (j * 4)).off + 3, none⟩ = some (.int .i64 (nx ps (j + 1)).2)) := fun W hb hk => by
           obtain ⟨ad', e, -, h0, h1⟩ := (HE5.out.keepT hb hk (by decide)).full.1.at kindG.len hje
           obtain rfl := Option.some.inj e
           rw [hej] at h0 h1
           exact ⟨h0 _ (by decide) rfl, h1 1 _ (by decide) (by decide) rfl, h1 2 _ (by decide) (by decide) rfl, h1 3 _ (by decide) (by decide) rfl⟩
          clear hej
          obtain ⟨k1, hk1⟩ : ∃ i, [101] ++ pB8 (nx ps j) = i := ⟨_, rfl⟩
          obtain ⟨k2, hk2⟩ : ∃ i, k1 ++ pB8 (nx ps (j + 1)) = i := ⟨_, rfl⟩
          have HPA := Lib.hid (fun W (_ : Below wr.heap.size wr W) => dpoint_any (W := W) _ ga)
          have HPB := Lib.hid (fun W (_ : Below wr.heap.size wr W) => dpoint_any (W := W) _ gb)
          have HK1L : Hid (k1.length = 9) := by unfold Hid; rw [← hk1, List.length_append, pB8_len]; rfl
          rw [show (101 :: (pB8 (nx ps j) ++ pB8 (nx ps (j + 1)))) = k2 by rw [← hk2, ← hk1]; simp] at hT5
          have HK1 := Lib.hid hk1
          have HK2 := Lib.hid hk2
          have HS := Lib.hid (fun W (h : Below wr.heap.size wr W) => HSK.out W (HNB.out.1.trans (h.mono HNB.out.1.size)) (KeepT.below h))
          clear hk1 hk2 ga gb HB5 hI5 hE5 hR5 hEN hje
          generalize nx ps j = pa at *
          generalize nx ps (j + 1) = pb at *
          go_upto_region 20 with (fail)
          go_cut [11] (fun s11 wx => KeyAt wr k2 s11 wx)
          case first =>
           refine wp_region_held_drew (S := fun W => W.cell? (ad9.add (j * 4)) = some (.int .i64 pa.1) ∧ W.cell? ⟨(ad9.add (j * 4)).block, (ad9.add (j * 4)).off + 1, none⟩ = some (.int .i64 pa.2) ∧ W.cell? ⟨(ad9.add (j * 4)).block, (ad9.add (j * 4)).off + 2, none⟩ = some (.int .i64 pb.1) ∧ W.cell? ⟨(ad9.add (j * 4)).block, (ad9.add (j * 4)).off + 3, none⟩ = some (.int .i64 pb.2)) (by kernel_rfl) (HS.out _ (Below.refl _ wr).drew) (fun hHeld => ?_)
           obtain ⟨u0, hu0⟩ : ∃ u, wr.drew = u := ⟨_, rfl⟩
           rw [hu0] at hHeld ⊢
           have Hu0 : Hid (Below wr.heap.size wr u0) := by rw [← hu0]; exact (Below.refl _ wr).drew
           obtain ⟨su0, hsu0⟩ : ∃ s, Hid (u0.heap.size = s) := ⟨_, Lib.hid rfl⟩
           clear hu0
           refine tZ 1 ?_; refine tZ 2 ?_; refine tZ 8 ?_; refine tZ 9 ?_; refine tZ 3 ?_; refine tZ 10 ?_; refine tZ 4 ?_; refine tZ 11 ?_; refine tZ 5 ?_; refine tZ 12 ?_
           refine wpAnyH_ready (rs := [0, 6]) (by decide +kernel) (by simp) ?_
           refine AllReadyH.cons rfl (fun K hK => ?_) (AllReadyH.cons rfl (fun K hK => ?_) AllReadyH.nil)
           ·skip
            (try simp only [jA, jB])
            go_simp
            obtain ⟨u1, eu1⟩ : ∃ V, u0.alloc (Obj.cells #[.int .u8 101] 5) = V := ⟨_, rfl⟩
            have hR0 := BRow.lit Hu0.out #[.int .u8 101] [(101 : UInt8)] rfl (by simp)
            rw [eu1] at hR0
            have hu1 := bZ eu1
            obtain ⟨su1, hsu1⟩ := sZ u1.heap.size
            have Nu1 := lZ eu1 hsu0 hsu1
            rw [eu1]
            rw [hsu0.out] at hR0 ⊢
            have F0 := fZ su0 ([(101 : UInt8)]).length ([(101 : UInt8)]).length
            clear eu1
            have Hu1 := Lib.hid (Hu0.out.trans (hu1.mono Hu0.out.size))
            clear hu1
            refine hK.out _ _ (HS.out _ Hu1.out) (fun hHeld => ?_)
            clear hK K
            (try simp only [Act.put, jA, jB, jC, jD, jE, jF])
            refine rZ 6 (fun K hK => ?_)
            (try simp only [jA, jB, jC])
            go_simp
            (go_at_call 42; refine (HPA.out u1 Hu1.out).mono ?_; rintro e' u2 ⟨v6, rfl, hc6⟩)
            have hu2 := hc6.1
            obtain ⟨su2, hsu2⟩ := sZ u2.heap.size
            have Nu2 := nZ hu2.size hsu1 hsu2
            have F6 : Hid (∀ k, v6.ownBlock = some k → su1 ≤ k ∧ k < su2) := fun k h => by have := hc6.2.lt k h; rw [hsu1.out, hsu2.out] at this; exact this
            have hR6 := hc6.base Hu1.out
            obtain ⟨A6, c6, rfl, -⟩ := hR6.byT
            clear hc6
            have Hu2 := Lib.hid (Hu1.out.trans (hu2.mono Hu1.out.size))
            replace hR0 := hR0.on hu2
            clear hu2
            refine hK.out _ _ (HS.out _ Hu2.out) (fun hHeld => ?_)
            clear hK K
            (try simp only [Act.put, jA, jB, jC, jD, jE, jF])
            refine rZ 7 (fun K hK => ?_)
            refine step_app hR0 _ _ _ hR6.bytesAt hR6.bt.2.2.2 (by simp [pB8_len]) rfl _ _ rfl rfl rfl ?_
            rintro v7 u3 hR7 hg7 ho7
            replace hR7 : BRow wr v7 k1 u3 := by have e := HK1.out; rw [e] at hR7; exact hR7
            obtain ⟨su3, hsu3⟩ := sZ u3.heap.size
            have Nu3 := nZ hg7.size hsu2 hsu3
            rw [hsu2.out] at ho7
            have F7 := Lib.hid (app_block ho7 F0.out (fun k h => Nat.lt_of_lt_of_eq (hR7.2.lt k h).2 hsu3.out))
            clear hR0 hR6
            obtain ⟨A7, c7, rfl, -⟩ := hR7.byT
            have Hu3 := Lib.hid hR7.1
            clear hg7 ho7
            refine hK.out _ _ (HS.out _ Hu3.out) (fun hHeld => ?_)
            clear hK K
            (try simp only [Act.put, jA, jB, jC, jD, jE, jF])
            refine rZ 13 (fun K hK => ?_)
            (try simp only [jA, jB, jC])
            go_simp
            (go_at_call 42; refine (HPB.out u3 Hu3.out).mono ?_; rintro e' u4 ⟨v13, rfl, hc13⟩)
            have hu4 := hc13.1
            obtain ⟨su4, hsu4⟩ := sZ u4.heap.size
            have Nu4 := nZ hu4.size hsu3 hsu4
            have F13 : Hid (∀ k, v13.ownBlock = some k → su3 ≤ k ∧ k < su4) := fun k h => by have := hc13.2.lt k h; rw [hsu3.out, hsu4.out] at this; exact this
            have hR13 := hc13.base Hu3.out
            obtain ⟨A13, c13, rfl, -⟩ := hR13.byT
            clear hc13
            have Hu4 := Lib.hid (Hu3.out.trans (hu4.mono Hu3.out.size))
            replace hR7 := hR7.on hu4
            clear hu4
            refine hK.out _ _ (HS.out _ Hu4.out) (fun hHeld => ?_)
            clear hK K
            (try simp only [Act.put, jA, jB, jC, jD, jE, jF])
            refine rZ 14 (fun K hK => ?_)
            refine step_app hR7 _ _ _ hR13.bytesAt hR13.bt.2.2.2 (by have := HK1L.out; rw [pB8_len]; omega) rfl _ _ rfl rfl rfl ?_
            rintro v14 u5 hR14 hg14 ho14
            replace hR14 : BRow wr v14 k2 u5 := by have e := HK2.out; rw [e] at hR14; exact hR14
            obtain ⟨su5, hsu5⟩ := sZ u5.heap.size
            have Nu5 := nZ hg14.size hsu4 hsu5
            rw [hsu4.out] at ho14
            have F14 := Lib.hid (app_block ho14 F7.out (fun k h => Nat.lt_of_lt_of_eq (hR14.2.lt k h).2 hsu5.out))
            clear hR7 hR13
            obtain ⟨A14, c14, rfl, -⟩ := hR14.byT
            have Hu5 := Lib.hid hR14.1
            clear hg14 ho14
            refine hK.out _ _ (HS.out _ Hu5.out) (fun hHeld => ?_)
            clear hK K
            (try simp only [Act.put, jA, jB, jC, jD, jE, jF])
            refine tZ 15 ?_
            refine wpAnyH_done (by decide +kernel) ?_ _
            clear hHeld
            go_wp2_with fail
            go_meet
            exact ⟨A14, c14, rfl, hR14.bt, Hu5.out⟩
           ·skip
            (try simp only [jA, jB, jC])
            go_simp
            (go_at_call 42; refine (HPA.out u0 Hu0.out).mono ?_; rintro e' u6 ⟨v6, rfl, hc6⟩)
            have hu6 := hc6.1
            obtain ⟨su6, hsu6⟩ := sZ u6.heap.size
            have Nu6 := nZ hu6.size hsu0 hsu6
            have F6 : Hid (∀ k, v6.ownBlock = some k → su0 ≤ k ∧ k < su6) := fun k h => by have := hc6.2.lt k h; rw [hsu0.out, hsu6.out] at this; exact this
            have hR6 := hc6.base Hu0.out
            obtain ⟨A6, c6, rfl, -⟩ := hR6.byT
            clear hc6
            have Hu6 := Lib.hid (Hu0.out.trans (hu6.mono Hu0.out.size))
            clear hu6
            refine hK.out _ _ (HS.out _ Hu6.out) (fun hHeld => ?_)
            clear hK K
            (try simp only [Act.put, jA, jB, jC, jD, jE, jF])
            refine rZ 0 (fun K hK => ?_)
            (try simp only [jA, jB])
            go_simp
            obtain ⟨u7, eu7⟩ : ∃ V, u6.alloc (Obj.cells #[.int .u8 101] 5) = V := ⟨_, rfl⟩
            have hR0 := BRow.lit Hu6.out #[.int .u8 101] [(101 : UInt8)] rfl (by simp)
            rw [eu7] at hR0
            have hu7 := bZ eu7
            obtain ⟨su7, hsu7⟩ := sZ u7.heap.size
            have Nu7 := lZ eu7 hsu6 hsu7
            rw [eu7]
            rw [hsu6.out] at hR0 ⊢
            have F0 := fZ su6 ([(101 : UInt8)]).length ([(101 : UInt8)]).length
            clear eu7
            have Hu7 := Lib.hid (Hu6.out.trans (hu7.mono Hu6.out.size))
            replace hR6 := hR6.on hu7
            clear hu7
            refine hK.out _ _ (HS.out _ Hu7.out) (fun hHeld => ?_)
            clear hK K
            (try simp only [Act.put, jA, jB, jC, jD, jE, jF])
            refine rZ 7 (fun K hK => ?_)
            refine step_app hR0 _ _ _ hR6.bytesAt hR6.bt.2.2.2 (by simp [pB8_len]) rfl _ _ rfl rfl rfl ?_
            rintro v7 u8 hR7 hg7 ho7
            replace hR7 : BRow wr v7 k1 u8 := by have e := HK1.out; rw [e] at hR7; exact hR7
            obtain ⟨su8, hsu8⟩ := sZ u8.heap.size
            have Nu8 := nZ hg7.size hsu7 hsu8
            rw [hsu7.out] at ho7
            have F7 := Lib.hid (app_block ho7 F0.out (fun k h => Nat.lt_of_lt_of_eq (hR7.2.lt k h).2 hsu8.out))
            clear hR0 hR6
            obtain ⟨A7, c7, rfl, -⟩ := hR7.byT
            have Hu8 := Lib.hid hR7.1
            clear hg7 ho7
            refine hK.out _ _ (HS.out _ Hu8.out) (fun hHeld => ?_)
            clear hK K
            (try simp only [Act.put, jA, jB, jC, jD, jE, jF])
            refine rZ 13 (fun K hK => ?_)
            (try simp only [jA, jB, jC])
            go_simp
            (go_at_call 42; refine (HPB.out u8 Hu8.out).mono ?_; rintro e' u9 ⟨v13, rfl, hc13⟩)
            have hu9 := hc13.1
            obtain ⟨su9, hsu9⟩ := sZ u9.heap.size
            have Nu9 := nZ hu9.size hsu8 hsu9
            have F13 : Hid (∀ k, v13.ownBlock = some k → su8 ≤ k ∧ k < su9) := fun k h => by have := hc13.2.lt k h; rw [hsu8.out, hsu9.out] at this; exact this
            have hR13 := hc13.base Hu8.out
            obtain ⟨A13, c13, rfl, -⟩ := hR13.byT
            clear hc13
            have Hu9 := Lib.hid (Hu8.out.trans (hu9.mono Hu8.out.size))
            replace hR7 := hR7.on hu9
            clear hu9
            refine hK.out _ _ (HS.out _ Hu9.out) (fun hHeld => ?_)
            clear hK K
            (try simp only [Act.put, jA, jB, jC, jD, jE, jF])
            refine rZ 14 (fun K hK => ?_)
            refine step_app hR7 _ _ _ hR13.bytesAt hR13.bt.2.2.2 (by have := HK1L.out; rw [pB8_len]; omega) rfl _ _ rfl rfl rfl ?_
            rintro v14 u10 hR14 hg14 ho14
            replace hR14 : BRow wr v14 k2 u10 := by have e := HK2.out; rw [e] at hR14; exact hR14
            obtain ⟨su10, hsu10⟩ := sZ u10.heap.size
            have Nu10 := nZ hg14.size hsu9 hsu10
            rw [hsu9.out] at ho14
            have F14 := Lib.hid (app_block ho14 F7.out (fun k h => Nat.lt_of_lt_of_eq (hR14.2.lt k h).2 hsu10.out))
            clear hR7 hR13
            obtain ⟨A14, c14, rfl, -⟩ := hR14.byT
            have Hu10 := Lib.hid hR14.1
            clear hg14 ho14
            refine hK.out _ _ (HS.out _ Hu10.out) (fun hHeld => ?_)
            clear hK K
            (try simp only [Act.put, jA, jB, jC, jD, jE, jF])
            refine tZ 15 ?_
            refine wpAnyH_done (by decide +kernel) ?_ _
            clear hHeld
            go_wp2_with fail
            go_meet
            exact ⟨A14, c14, rfl, hR14.bt, Hu10.out⟩
          case rest =>
           obtain ⟨A11, c11, rfl, hK11, hB11⟩ := hcut
           have HNC := Lib.hid (HNB.out.on hB11)
           have HIC := Lib.hid (HI5.out.on hB11)
           have HEC := Lib.hid (HE5.out.on hB11)
           have HVC := Lib.hid (HV5.out.on hB11)
           have HKC := Lib.hid hK11
           clear hK11 hB11 HS HSK HPA HPB
           have hLT := BRow.lit (Below.refl wc.heap.size wc) #[] ([] : List UInt8) rfl (by simp)
           have HLT := Lib.hid hLT
           have HIB := Lib.hid (HIC.out.on hLT.1).bytes
           clear hLT
           go_wp2_with (at_builtin; go_must (first
            |(refine append_by HLT.out idk A7 c7 HIB.out HIN.out (by have := HIL.out; simp; omega) rfl _ _ rfl rfl rfl ?_; rintro v7 W7 hR7; rw [List.nil_append] at hR7; have HN7 := Lib.hid (HNC.out.on hR7.1); have HI7 := Lib.hid (HIC.out.on hR7.1); have HE7 := Lib.hid (HEC.out.on hR7.1); have HV7 := Lib.hid (HVC.out.on hR7.1); have HK7 := Lib.hid (HKC.out.1.on hR7.1); obtain ⟨A77, c77, rfl, hb7, hc7, hm7, hn7⟩ := hR7.byT; have HX7 := Lib.hid (lone_it HK7.out HKC.out.2.1 HKC.out.2.2.1 HKC.out.2.2.2 hb7 hc7 hm7 hn7); clear hR7 hb7 hc7 hm7 hn7)
            |(refine append_it HV7.out _ HX7.out _ rfl hvl5.out rfl _ _ rfl rfl _ rfl ?_; rintro v8 W8 hR8 hk8; have HN8 := Lib.hid (HN7.out.keepT hR8.below hk8 (by simp)); have HI8 := Lib.hid (HI7.out.keep hk8 (by decide)); have HE8 := Lib.hid (HE7.out.keepT hR8.below hk8 (by decide)); have hr8 : ItRow w v8 ((L0 ++ pl ++ el.take j) ++ [(k2, idk)]) W8 := hR8; rw [List.append_assoc, ← hT5.out] at hr8; have HR8 := Lib.hid hr8; clear hR8 hk8 hr8)))
           go_roundg (ps.length - (j + 1))
           case measure => have := HGJ.out; omega
           case rel => exact ⟨j + 1, by omega, rfl, by go_num, HN8.out, HI8.out, HE8.out, HR8.out⟩
         ·obtain rfl : j = ps.length := by omega
          have b5 : ¬ ((ps.length : Nat) : Int) < ((edg ps).length : Int) := by omega
          rw [List.take_of_length_le (by rw [HELN.out]; exact Nat.le_refl _)] at hR5
          have HNB := Lib.hid HB5
          have HI5 := Lib.hid hI5
          have HV5 := Lib.hid hR5
          have h30 : 3 ≤ ps.length := (chE_zero.1 HP5.out).2.1
          have hgA := fun i => HP4.out _ (nx_memR (r := ps) (show 0 < ps.length by omega) i)
          have HAR := Lib.hid (ref_around ps xA xc (by omega) (by omega) wr (HPT.out wr HB5.1))
          have HSP := Lib.hid (fun W => ref_span (awL ps).1 (awL ps).2 (aw_ok HP5.out) W)
          obtain ⟨cs, hcs⟩ : ∃ c, spL (awL ps).1 (awL ps).2 = c := ⟨_, rfl⟩
          have HCE := Lib.hid (fun j hj => celL_take (p := ⟨id, ps, own⟩) (k := j) hcs hj)
          have HLM : Hid (∀ c ∈ cs, (-4 ≤ c.1 ∧ c.1 ≤ 4) ∧ -4 ≤ c.2 ∧ c.2 ≤ 4) := fun c hcl => cell_lim (r := ps) hgA (by rw [hcs]; exact hcl)
          have HCN : Hid ((celL ⟨id, ps, own⟩).length = cs.length) := by unfold Hid celL; rw [List.length_map, hcs]
          have HCS : Hid (cs.length ≤ 1000) := by
           obtain ⟨a, b⟩ := awT_gd (r := ps) hgA ps.length
           have := spL_len_le a b
           unfold awL at hcs
           rw [hcs] at this
           unfold Hid; omega
          rw [hcs] at HSP
          clear hcs hgA h30 HB5 hI5 hR5 hE5 HEQ HELN
          generalize celL ⟨id, ps, own⟩ = cl at *
          generalize awL ps = z at *
          obtain ⟨zL, zH⟩ := z
          dsimp only at HAR HSP
          have x1 := HNB.out.cell (.head _) 1
          simp only [List.getElem?_toArray, List.getElem?_cons_zero, List.getElem?_cons_succ] at x1
          go_upto_region 23 with (first
           |(go_at_call 44; go_must ((with_reducible refine HAR.out.mono ?_); rintro e' W6 ⟨rfl, hB6⟩; have HB6 := Lib.hid hB6; clear hB6))
           |(go_at_call 43; go_must ((with_reducible refine (HSP.out _).mono ?_); rintro e' W7 ⟨v7, rfl, hR7⟩; have hb7 := HB6.out.trans (hR7.1.mono HB6.out.size); have HN7 := Lib.hid (HNB.out.on hb7); have HI7 := Lib.hid (HI5.out.on hb7); have HV7 := Lib.hid (HV5.out.on hb7); have hR70 := RowI.base6 hR7 (HNB.out.1.trans (HB6.out.mono HNB.out.1.size)); obtain ⟨A12, c12, rfl, -⟩ := hR70.items; have HC7 := Lib.hid hR70; clear hR7 hR70 hb7)))
          clear x1 b5 hEN HNB HI5 HV5 HAR HSP
          go_wp2_with fail
          go_loopg [3, 13] cs.length (fun g v i wr => ∃ j : Nat, j ≤ cs.length ∧ g = cs.length - j ∧ i = .int .i64 (j : Int) ∧ Hold w [(g6, #[.int .i64 id, .slice xA ps.length xc, .string own], 58), (g1, #[.slice Ao o.length co, .slice (some ad) l.length cp], 26)] wr ∧ ByT wr A7 idk ∧ RowI w 87 2 encP (.slice A12 cs.length c12) cs wr ∧ ItRow w v (L0 ++ pl ++ el ++ cl.take j) wr)
          case atStart => exact ⟨0, Nat.zero_le _, rfl, rfl, HN7.out, HI7.out, HC7.out, by rw [List.take_zero, List.append_nil]; exact HV7.out⟩
          case round =>
           obtain ⟨j, hj, hgj, rfl, HB5, hI5, hC5, hR5⟩ := hrel
           have HGJ := Lib.hid hgj
           clear hgj
           have hCS := HCS.out
           by_cases hlt5 : j < cs.length
           ·have b4 : (0 : Int) ≤ (j : Int) := by omega
            have b5 : (j : Int) < (cs.length : Int) := by omega
            have hj0 : IntKind.i64.wrap ((j : Int) + 1) = (j : Int) + 1 := IntWalk.i64_in _ (by omega)
            have hT8 := Lib.hid (HCE.out j hlt5)
            have hvl8 : Hid ((L0 ++ pl ++ el ++ cl.take j).length + 1 ≤ 1000000) := by have := hbd.out; have := HCN.out; unfold Hid; rw [List.length_append, List.length_append, List.length_append, List.length_take]; omega
            have HNB := Lib.hid HB5
            have HI5 := Lib.hid hI5
            have HCL := Lib.hid hC5
            have HV8 := Lib.hid hR5
            obtain ⟨lm1, lm2⟩ := HLM.out cs[j] (List.getElem_mem hlt5)
            obtain ⟨r1, s1⟩ := cell_num lm1
            obtain ⟨r2, s2⟩ := cell_num lm2
            obtain ⟨ad9, e9, -, -, -⟩ := cells_at hC5.full.1 hlt5
            subst e9
            have HSK : Hid (∀ W, Below w.heap.size w W → KeepT 39 wr W → W.cell? (ad9.add (j * 2)) = some (.int .i64 cs[j].1) ∧ W.cell? ⟨(ad9.add (j * 2)).block, (ad9.add (j * 2)).off + 1, none⟩ = some (.int .i64 cs[j].2)) := fun W hb hk => by
             obtain ⟨ad', e, -, h0, h1⟩ := cells_at (HCL.out.keepT hb hk (by decide)).full.1 hlt5
             obtain rfl := Option.some.inj e
             exact ⟨h0, h1⟩
            have HS := Lib.hid (fun W (h : Below wr.heap.size wr W) => HSK.out W (HNB.out.1.trans (h.mono HNB.out.1.size)) (KeepT.below h))
            have HIB8 := Lib.hid (fun W (h : Below wr.heap.size wr W) => (HI5.out.on h).bytes)
            clear lm1 lm2 HB5 hI5 hC5 hR5
            generalize cs[j] = a at *
            obtain ⟨n1, hn1⟩ : ∃ n, (a.1 + 128).toNat = n := ⟨_, rfl⟩
            obtain ⟨n2, hn2⟩ : ∃ n, (a.2 + 128).toNat = n := ⟨_, rfl⟩
            rw [hn1] at r1 s1 hT8
            rw [hn2] at r2 s2 hT8
            have u1 := u8_nat n1 s1
            have u2 := u8_nat n2 s2
            obtain ⟨kx, hkx⟩ : ∃ i, UInt8.ofNat n1 = i := ⟨_, rfl⟩
            obtain ⟨ky, hky⟩ : ∃ i, UInt8.ofNat n2 = i := ⟨_, rfl⟩
            rw [hkx] at u1 hT8
            rw [hky] at u2 hT8
            obtain ⟨kc, hkc⟩ : ∃ i, [(99 : UInt8), kx, ky] ++ idk = i := ⟨_, rfl⟩
            rw [HIK.out, show (99 : UInt8) :: kx :: ky :: idk = kc from hkc] at hT8
            have HKC := Lib.hid hkc
            clear hn1 hn2 hkx hky hkc s1 s2 hCS hj
            go_upto_region 26 with (fail)
            refine wp_region_held_drew (S := fun W => W.cell? (ad9.add (j * 2)) = some (.int .i64 a.1) ∧ W.cell? ⟨(ad9.add (j * 2)).block, (ad9.add (j * 2)).off + 1, none⟩ = some (.int .i64 a.2)) (by kernel_rfl) (HS.out _ (Below.refl _ wr).drew) (fun hHeld => ?_)
            obtain ⟨u0, hu0⟩ : ∃ u, wr.drew = u := ⟨_, rfl⟩
            rw [hu0] at hHeld ⊢
            have Hu0 : Hid (Below wr.heap.size wr u0) := by rw [← hu0]; exact (Below.refl _ wr).drew
            obtain ⟨su0, hsu0⟩ : ∃ s, Hid (u0.heap.size = s) := ⟨_, Lib.hid rfl⟩
            clear hu0
            refine tZ 0 ?_; refine tZ 1 ?_; refine tZ 2 ?_; refine tZ 8 ?_; refine tZ 9 ?_; refine tZ 16 ?_; refine tZ 3 ?_; refine tZ 10 ?_; refine tZ 4 ?_; refine tZ 11 ?_; refine tZ 5 ?_; refine tZ 12 ?_; refine tZ 6 ?_; refine tZ 13 ?_; refine tZ 7 ?_; refine tZ 14 ?_
            refine rZ 15 (fun K hK => ?_)
            (try simp only [jA, jB, jC])
            go_simp
            obtain ⟨u1, eu1⟩ : ∃ V, u0.alloc (Obj.cells #[.int .u8 99, .int .u8 ((kx.toNat : Nat) : Int), .int .u8 ((ky.toNat : Nat) : Int)] 5) = V := ⟨_, rfl⟩
            have hR15 := BRow.lit Hu0.out #[.int .u8 99, .int .u8 ((kx.toNat : Nat) : Int), .int .u8 ((ky.toNat : Nat) : Int)] [(99 : UInt8), kx, ky] rfl (by simp)
            rw [eu1] at hR15
            have hu1 := bZ eu1
            obtain ⟨su1, hsu1⟩ := sZ u1.heap.size
            have Nu1 := lZ eu1 hsu0 hsu1
            rw [eu1]
            rw [hsu0.out] at hR15 ⊢
            have F15 := fZ su0 ([(99 : UInt8), kx, ky]).length ([(99 : UInt8), kx, ky]).length
            clear eu1
            have Hu1 := Lib.hid (Hu0.out.trans (hu1.mono Hu0.out.size))
            clear hu1
            refine hK.out _ _ (HS.out _ Hu1.out) (fun hHeld => ?_)
            clear hK K
            (try simp only [Act.put, jA, jB, jC, jD, jE, jF])
            refine rZ 17 (fun K hK => ?_)
            refine step_app hR15 _ _ _ (HIB8.out _ Hu1.out) HIN.out (by have := HIL.out; simp; omega) rfl _ _ rfl rfl rfl ?_
            rintro v17 u2 hR17 hg17 ho17
            replace hR17 : BRow wr v17 kc u2 := by have e := HKC.out; rw [e] at hR17; exact hR17
            obtain ⟨su2, hsu2⟩ := sZ u2.heap.size
            have Nu2 := nZ hg17.size hsu1 hsu2
            rw [hsu1.out] at ho17
            have F17 := Lib.hid (app_block ho17 F15.out (fun k h => Nat.lt_of_lt_of_eq (hR17.2.lt k h).2 hsu2.out))
            clear hR15
            obtain ⟨A17, c17, rfl, -⟩ := hR17.byT
            have Hu2 := Lib.hid hR17.1
            clear hg17 ho17
            refine hK.out _ _ (HS.out _ Hu2.out) (fun hHeld => ?_)
            clear hK K
            (try simp only [Act.put, jA, jB, jC, jD, jE, jF])
            refine tZ 18 ?_
            refine rZ 19 (fun K hK => ?_)
            (try simp only [jA, jB, jC])
            go_simp
            obtain ⟨u3, eu3⟩ : ∃ V, u2.alloc (Obj.cells #[.slice A17 kc.length c17, .slice none 0 0] 39) = V := ⟨_, rfl⟩
            have hu3 := bZ eu3
            have hI19 := heap_alloc_new u2 (Obj.cells #[.slice A17 kc.length c17, .slice none 0 0] 39 (0, 0))
            rw [eu3] at hI19 ⊢
            obtain ⟨su3, hsu3⟩ := sZ u3.heap.size
            clear eu3
            have Hu3 := Lib.hid (Hu2.out.trans (hu3.mono Hu2.out.size))
            replace hR17 := hR17.on hu3
            clear hu3
            refine hK.out _ _ (HS.out _ Hu3.out) (fun hHeld => ?_)
            clear hK K
            (try simp only [Act.put, jA, jB, jC, jD, jE, jF])
            refine rZ 20 (fun K hK => ?_)
            refine step_appI (HV8.out.on Hu3.out) ⟨kc, A17, c17, [], none, 0⟩ (lone_it hR17.bt.1 hR17.bt.2.1 hR17.bt.2.2.1 hR17.bt.2.2.2 (ByT.nil _ _) (Nat.le_refl _) (Nat.zero_le _) (fun _ => rfl)) hI19 rfl hvl8.out rfl _ _ rfl rfl _ rfl ?_; rintro v20 u4 hrow20 hk20; have hkk20 := (KeepT.below Hu3.out).trans hk20
            refine hK.out _ _ (HSK.out _ hrow20.below hkk20) (fun hHeld => ?_)
            clear hK K
            (try simp only [Act.put, jA, jB, jC, jD, jE, jF])
            refine tZ 21 ?_
            refine wpAnyH_done (by decide +kernel) ?_ _
            clear hHeld
            have HN8 := Lib.hid (HNB.out.keepT hrow20.below hkk20 (by simp))
            have HI8 := Lib.hid (HI5.out.keep hkk20 (by decide))
            have HC8 := Lib.hid (HCL.out.keepT hrow20.below hkk20 (by decide))
            have hr20 : ItRow w v20 ((L0 ++ pl ++ el ++ cl.take j) ++ [(kc, [])]) _ := hrow20
            rw [List.append_assoc, ← hT8.out] at hr20
            have HR8 := Lib.hid hr20
            clear hr20 hrow20 hk20 hkk20 HS HSK HIB8
            go_wp2
            go_roundg (cs.length - (j + 1))
            case measure => have := HGJ.out; omega
            case rel => exact ⟨j + 1, by omega, rfl, by go_num, HN8.out, HI8.out, HC8.out, HR8.out⟩
           ·obtain rfl : j = cs.length := by omega
            have b5 : ¬ ((cs.length : Nat) : Int) < (cs.length : Int) := by omega
            rw [List.take_of_length_le (by rw [HCN.out]; exact Nat.le_refl _)] at hR5
            have HN9 := Lib.hid HB5.tail
            have HV9' := Lib.hid hR5
            clear HB5 hI5 hC5 hR5 hCS
            go_wp2
            go_roundg (l.length - (k + 1))
            case measure => have := HGK2.out; omega
            case rel => exact ⟨k + 1, by omega, rfl, by go_num, HN9.out, by rw [hT.out]; exact HV9'.out⟩
    ·obtain rfl : k = l.length := by omega
     rw [List.take_length] at HV
     have HK := Lib.hid HV
     clear HV
     go_wp2
     go_ret
     exact ⟨_, rfl, HK.out⟩
end Go.Proofs.YtoiamjglklgcdaaGreat
