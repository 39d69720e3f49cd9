/- The law JsonBack: its walk. -/
import Derived.Test.YtmjooghfghmngaaDoorJOwn
import Derived.Test.YtmjooghfghmngaaDoorJPsn
import Derived.Test.YtmjooghfghmngaaDoorJBck
import Derived.Test.YtmjooghfghmngaaDoorJGen
namespace Go.Proofs.YtmjooghfghmngaaDoor
open Go.RowKit Go.Shelf Go.Lib

theorem parse_sm2 {s : List UInt8} {x : JV} (h : parseN s = .ok x) : SM 4611686018427387904 33 x := by
  have hl : s.length ≤ 262144 := by
    unfold parseN at h
    split at h
    · cases h
    · omega
  exact Told.sm (s := s) (x := x) (e := 0) (.inl ⟨h, rfl⟩) (by omega)
theorem same_two {w : World} {F G : Nat → Prop} {d d' : Nat} {k1 k2 : Int} {t1 t2 : ByteArray} {P1 P2 Q1 Q2 : Option Addr} {p1 p2 q1 q2 pc1 pc2 qc1 qc2 : Nat} {x : JV} (hV : VAt w F d ⟨k1, t1, .slice P1 p1 pc1, .slice Q1 q1 qc1⟩ x) (gV : VAt w G d' ⟨k2, t2, .slice P2 p2 pc2, .slice Q2 q2 qc2⟩ x) (hF : ∀ g, F g → g < w.heap.size) (hG : ∀ g, G g → g < w.heap.size) (hs : SM 4611686018427387904 d x) :
    Calls Tryd.prog 14 #[.agg #[.int .i64 k1, .string t1, .slice P1 p1 pc1, .slice Q1 q1 qc1], .agg #[.int .i64 k2, .string t2, .slice P2 p2 pc2, .slice Q2 q2 qc2]] w fun e w' => e = .returned (.bool true) ∧ Below w.heap.size w w' :=
  same_any d d' w F G ⟨k1, t1, .slice P1 p1 pc1, .slice Q1 q1 qc1⟩ ⟨k2, t2, .slice P2 p2 pc2, .slice Q2 q2 qc2⟩ x hV gV hF hG hs
set_option maxHeartbeats 4000000 in
set_option maxRecDepth 100000 in
theorem back_walk {W : World} (hE : Env W) {d : Nat} {k : Int} {t : ByteArray} {A1 A2 : Option Addr} {n1 c1 n2 c2 : Nat} {x : JV} (hV : VAt W (fun g => g < W.heap.size) d ⟨k, t, .slice A1 n1 c1, .slice A2 n2 c2⟩ x) (hT : TM d x) (hR : RM d x)
    {Ab : Option Addr} {bs : List UInt8} {cb : Nat} (hY : Lib.BytesAt W Ab bs.length bs) (hN : Ab = none → cb = 0) (hU : bs.length ≤ 140737488355328) :
    Calls Tryd.prog 4 #[.agg #[.int .i64 k, .string t, .slice A1 n1 c1, .slice A2 n2 c2], .slice Ab bs.length cb] W fun e w' => e = .returned (.bool true) ∧ Below W.heap.size W w' := by
  have hb1 : Below W.heap.size W (W.alloc (Obj.cells #[.int .i64 k, .string t, .slice A1 n1 c1, .slice A2 n2 c2] 25)) := by go_grown
  have h0 := heap_alloc_new W (Obj.cells #[.int .i64 k, .string t, .slice A1 n1 c1, .slice A2 n2 c2] 25)
  have hV1 := hV.keep (W' := W.alloc (Obj.cells #[.int .i64 k, .string t, .slice A1 n1 c1, .slice A2 n2 c2] 25)) (F' := fun g => g < W.heap.size) fun g hg => ⟨hg, hb1.block g hg⟩
  have HO := Lib.hid (own_any d (W.alloc (Obj.cells #[.int .i64 k, .string t, .slice A1 n1 c1, .slice A2 n2 c2] 25)) _ k t A1 A2 n1 c1 n2 c2 x hV1 (fun g hg => Nat.lt_of_lt_of_le hg hb1.size) hR)
  have HA := Lib.hid (fun W' (hb : Below W.heap.size W W') => answers_any (hE.on hb))
  have HE := Lib.hid hE
  have HV := Lib.hid hV
  have HT := Lib.hid hT
  have HRS := Lib.hid (rm_sm d x hR)
  have HN := Lib.hid hN
  have HYB := Lib.hid (fun W' (hb : Below W.heap.size W W') => bytes_on hY (grew_of hb none) (fun _ _ => by simp))
  have HB1 := Lib.hid hb1
  have HX1 := Lib.hid h0
  clear hb1 h0 hV1 hE hV hT hR hY hN
  go_enter Tryd.func4, Tryd.ntmps4
  go_wp2_with (go_at_call 10; go_must ((with_reducible refine HO.out.mono ?_); rintro e' w2 ⟨B1, b1, B2, b2, rfl, hb2, hv2⟩; have HB2 := Lib.hid (HB1.out.trans (hb2.mono HB1.out.size)); have HX2 := Lib.hid ((hb2.block _ (blk_lt HX1.out)).trans HX1.out); have HPR := Lib.hid (Print_any k t B1 B2 n1 b1 n2 b2 x hv2 (HE.out.on HB2.out) (fun g hg => hg.2) HT.out); have HD := Lib.hid hv2.deep; clear hb2 hv2))
  go_at_call 9
  refine HPR.out.mono ?_
  rintro e' w3 ⟨⟨hs, rfl⟩ | ⟨hs, hl, rfl⟩ | ⟨hs, hl, P, p, rfl, hY3, hb3, hlp, hmp⟩, hB3⟩
  · have HB3 := Lib.hid (HB2.out.trans (hB3.mono HB2.out.size))
    have HX3 := Lib.hid ((hB3.block _ (blk_lt HX2.out)).trans HX2.out)
    have HS3 := Lib.hid HB3.out
    clear hs hB3
    go_wp2_with (first
      | (go_at_call 12; (with_reducible refine (HA.out _ HB3.out).mono ?_); rintro e' w4 ⟨rfl, hb4⟩; have HB4 := Lib.hid (HB3.out.trans (hb4.mono HB3.out.size)); have HX4 := Lib.hid ((hb4.block _ (blk_lt HX3.out)).trans HX3.out); have HS4 := Lib.hid (HS3.out.trans (hb4.mono HS3.out.size)); have HG4 := Lib.hid hb4; clear hb4)
      | (at_builtin; go_must (refine append_by (BRow.made w4 w4 (Below.refl _ _)) bs Ab cb (HYB.out _ (HB4.out.alloc HB4.out.size _)) HN.out (by simp; omega) rfl _ _ rfl rfl rfl ?_; rintro v8 w8 HR8; rw [List.nil_append] at HR8; obtain ⟨A8, c8, rfl, hY8, hb8, hl8, hm8⟩ := HR8.at; have HB8 := Lib.hid (HB4.out.trans (HR8.1.mono HB4.out.size)); have HY8 := Lib.hid hY8; have Hb8 := Lib.hid hb8; have HL8 := Lib.hid hl8; have HM8 := Lib.hid hm8; clear hY8 hb8 hl8 hm8 HR8)))
    go_at_call 13
    refine (parse_gen (HE.out.on HB8.out) HY8.out (fun ad e => (Hb8.out ad e).2) HL8.out (by have := HM8.out; unfold maxLen at this; omega)).mono ?_
    rintro e' w9 ⟨k9, t9, P9, p9, q9, R9, r9, s9, at9, e9, x9, F9, rfl, hb9, hV9, hF9, hT9⟩
    have hb10 : Below w9.heap.size w9 (w9.alloc (Obj.cells #[.int .i64 k9, .string t9, .slice P9 p9 q9, .slice R9 r9 s9] 25 (0, 0))) := by go_grown
    have HB10 := Lib.hid ((HB8.out.trans (hb9.mono HB8.out.size)).trans (hb10.mono (HB8.out.trans (hb9.mono HB8.out.size)).size))
    have hx10 := heap_alloc_new w9 (Obj.cells #[.int .i64 k9, .string t9, .slice P9 p9 q9, .slice R9 r9 s9] 25 (0, 0))
    rcases hT9 with ⟨hp, rfl⟩ | ⟨q, hp, hc, rfl⟩
    · have hP := Print_any k9 t9 P9 R9 p9 q9 r9 s9 x9 (hV9.keep fun g hg => ⟨hg, hb10.block g (hF9 g hg)⟩) (HE.out.on HB10.out) (fun g hg => Nat.lt_of_lt_of_le (hF9 g hg) hb10.size) (parse_tm hp)
      have HP2 := Lib.hid hP
      have HPP := Lib.hid hp
      have HV9 := Lib.hid hV9
      have HF9 := Lib.hid hF9
      have HX10 := Lib.hid hx10
      have HS10 := Lib.hid hb10
      have r0 := blk_cell hx10 0
      have r1 := blk_cell hx10 1
      have r2 := blk_cell hx10 2
      have r3 := blk_cell hx10 3
      simp only [List.getElem?_toArray, List.getElem?_cons_zero, List.getElem?_cons_succ] at r0 r1 r2 r3
      clear hP hp hV9 hF9 hx10 hb9 hb10
      go_wp2_with fail
      go_at_call 9
      refine HP2.out.mono ?_
      rintro e' w11 ⟨⟨hs, rfl⟩ | ⟨hs, hl, rfl⟩ | ⟨hs, hl, P, p, rfl, hY11, hb11, hlp, hmp⟩, hB11⟩
      · rw [parse_sound HPP.out] at hs; cases hs
      · have HB11 := Lib.hid (HB10.out.trans (hB11.mono HB10.out.size))
        clear hs hl hB11 r0 r1 r2 r3
        go_wp2_with fail
        go_ret
        exact ⟨rfl, HB11.out⟩
      · have HB11 := Lib.hid (HB10.out.trans (hB11.mono HB10.out.size))
        have hP3 := parse_box (print_back HV9.out.deep hs hl) (HE.out.on HB11.out) hY11 hb11 hlp (by unfold maxLen at hmp; omega)
        have HP3 := Lib.hid hP3
        have hx11 := (hB11.block _ (blk_lt HX10.out)).trans HX10.out
        have HX11 := Lib.hid hx11
        have HS11 := Lib.hid (HS10.out.trans (hB11.mono HS10.out.size))
        clear hs hl hY11 hb11 hlp hmp hP3 hx11 hB11 r0 r1 r2 r3
        generalize (printJ 33 x9).length = pn at HP3 ⊢
        go_wp2_with (first
          | (go_at_call 13; (with_reducible refine HP3.out.mono ?_); rintro e' w12 ⟨k12, t12, P12, p12, q12, R12, r12, s12, F12, rfl, hb12, hV12, hF12⟩; have hb13 : Below w12.heap.size w12 (w12.alloc (Obj.cells #[.int .i64 k12, .string t12, .slice P12 p12 q12, .slice R12 r12 s12] 25 (0, 0))) := by go_grown
             have hx13 := heap_alloc_new w12 (Obj.cells #[.int .i64 k12, .string t12, .slice P12 p12 q12, .slice R12 r12 s12] 25 (0, 0)); have hx12 := blk_alloc ((hb12.block _ (blk_lt HX11.out)).trans HX11.out) (Obj.cells #[.int .i64 k12, .string t12, .slice P12 p12 q12, .slice R12 r12 s12] 25 (0, 0)); have q0 := blk_cell hx12 0; have q1 := blk_cell hx12 1; have q2 := blk_cell hx12 2; have q3 := blk_cell hx12 3; have r0 := blk_cell hx13 0; have r1 := blk_cell hx13 1; have r2 := blk_cell hx13 2; have r3 := blk_cell hx13 3; simp only [List.getElem?_toArray, List.getElem?_cons_zero, List.getElem?_cons_succ] at q0 q1 q2 q3 r0 r1 r2 r3
             have hs13 := HS11.out.trans ((hb12.mono HS11.out.size).trans (hb13.mono (Nat.le_trans HS11.out.size hb12.size)))
             have HSM := Lib.hid (same_two (x := x9) (HV9.out.keep fun g hg => ⟨hg, hs13.block g (HF9.out g hg)⟩) (hV12.keep fun g hg => ⟨hg, hb13.block g (hF12 g hg)⟩) (fun g hg => Nat.lt_of_lt_of_le (HF9.out g hg) hs13.size) (fun g hg => Nat.lt_of_lt_of_le (hF12 g hg) hb13.size) (parse_sm2 HPP.out))
             have HB13 := Lib.hid (HB11.out.trans ((hb12.mono HB11.out.size).trans (hb13.mono (Nat.le_trans HB11.out.size hb12.size)))); clear hb12 hb13 hx12 hx13 hV12 hF12 hs13)
          | (go_at_call 14; (with_reducible refine HSM.out.mono ?_); rintro e' w14 ⟨rfl, hb14⟩; have HB14 := Lib.hid (HB13.out.trans (hb14.mono HB13.out.size)); clear hb14))
        go_ret
        exact ⟨rfl, HB14.out⟩
    · clear hp hV9 hF9 hb9 hb10 hx10
      rcases hc with rfl | rfl
      · go_wp2_with fail
        go_ret
        exact ⟨rfl, HB10.out⟩
      · go_wp2_with fail
        go_ret
        exact ⟨rfl, HB10.out⟩
  · have HB3 := Lib.hid (HB2.out.trans (hB3.mono HB2.out.size))
    have HX3 := Lib.hid ((hB3.block _ (blk_lt HX2.out)).trans HX2.out)
    have HS3 := Lib.hid HB3.out
    clear hs hl hB3
    go_wp2_with (first
      | (go_at_call 12; (with_reducible refine (HA.out _ HB3.out).mono ?_); rintro e' w4 ⟨rfl, hb4⟩; have HB4 := Lib.hid (HB3.out.trans (hb4.mono HB3.out.size)); have HX4 := Lib.hid ((hb4.block _ (blk_lt HX3.out)).trans HX3.out); have HS4 := Lib.hid (HS3.out.trans (hb4.mono HS3.out.size)); have HG4 := Lib.hid hb4; clear hb4)
      | (at_builtin; go_must (refine append_by (BRow.made w4 w4 (Below.refl _ _)) bs Ab cb (HYB.out _ (HB4.out.alloc HB4.out.size _)) HN.out (by simp; omega) rfl _ _ rfl rfl rfl ?_; rintro v8 w8 HR8; rw [List.nil_append] at HR8; obtain ⟨A8, c8, rfl, hY8, hb8, hl8, hm8⟩ := HR8.at; have HB8 := Lib.hid (HB4.out.trans (HR8.1.mono HB4.out.size)); have HY8 := Lib.hid hY8; have Hb8 := Lib.hid hb8; have HL8 := Lib.hid hl8; have HM8 := Lib.hid hm8; clear hY8 hb8 hl8 hm8 HR8)))
    go_at_call 13
    refine (parse_gen (HE.out.on HB8.out) HY8.out (fun ad e => (Hb8.out ad e).2) HL8.out (by have := HM8.out; unfold maxLen at this; omega)).mono ?_
    rintro e' w9 ⟨k9, t9, P9, p9, q9, R9, r9, s9, at9, e9, x9, F9, rfl, hb9, hV9, hF9, hT9⟩
    have hb10 : Below w9.heap.size w9 (w9.alloc (Obj.cells #[.int .i64 k9, .string t9, .slice P9 p9 q9, .slice R9 r9 s9] 25 (0, 0))) := by go_grown
    have HB10 := Lib.hid ((HB8.out.trans (hb9.mono HB8.out.size)).trans (hb10.mono (HB8.out.trans (hb9.mono HB8.out.size)).size))
    have hx10 := heap_alloc_new w9 (Obj.cells #[.int .i64 k9, .string t9, .slice P9 p9 q9, .slice R9 r9 s9] 25 (0, 0))
    rcases hT9 with ⟨hp, rfl⟩ | ⟨q, hp, hc, rfl⟩
    · have hP := Print_any k9 t9 P9 R9 p9 q9 r9 s9 x9 (hV9.keep fun g hg => ⟨hg, hb10.block g (hF9 g hg)⟩) (HE.out.on HB10.out) (fun g hg => Nat.lt_of_lt_of_le (hF9 g hg) hb10.size) (parse_tm hp)
      have HP2 := Lib.hid hP
      have HPP := Lib.hid hp
      have HV9 := Lib.hid hV9
      have HF9 := Lib.hid hF9
      have HX10 := Lib.hid hx10
      have HS10 := Lib.hid hb10
      have r0 := blk_cell hx10 0
      have r1 := blk_cell hx10 1
      have r2 := blk_cell hx10 2
      have r3 := blk_cell hx10 3
      simp only [List.getElem?_toArray, List.getElem?_cons_zero, List.getElem?_cons_succ] at r0 r1 r2 r3
      clear hP hp hV9 hF9 hx10 hb9 hb10
      go_wp2_with fail
      go_at_call 9
      refine HP2.out.mono ?_
      rintro e' w11 ⟨⟨hs, rfl⟩ | ⟨hs, hl, rfl⟩ | ⟨hs, hl, P, p, rfl, hY11, hb11, hlp, hmp⟩, hB11⟩
      · rw [parse_sound HPP.out] at hs; cases hs
      · have HB11 := Lib.hid (HB10.out.trans (hB11.mono HB10.out.size))
        clear hs hl hB11 r0 r1 r2 r3
        go_wp2_with fail
        go_ret
        exact ⟨rfl, HB11.out⟩
      · have HB11 := Lib.hid (HB10.out.trans (hB11.mono HB10.out.size))
        have hP3 := parse_box (print_back HV9.out.deep hs hl) (HE.out.on HB11.out) hY11 hb11 hlp (by unfold maxLen at hmp; omega)
        have HP3 := Lib.hid hP3
        have hx11 := (hB11.block _ (blk_lt HX10.out)).trans HX10.out
        have HX11 := Lib.hid hx11
        have HS11 := Lib.hid (HS10.out.trans (hB11.mono HS10.out.size))
        clear hs hl hY11 hb11 hlp hmp hP3 hx11 hB11 r0 r1 r2 r3
        generalize (printJ 33 x9).length = pn at HP3 ⊢
        go_wp2_with (first
          | (go_at_call 13; (with_reducible refine HP3.out.mono ?_); rintro e' w12 ⟨k12, t12, P12, p12, q12, R12, r12, s12, F12, rfl, hb12, hV12, hF12⟩; have hb13 : Below w12.heap.size w12 (w12.alloc (Obj.cells #[.int .i64 k12, .string t12, .slice P12 p12 q12, .slice R12 r12 s12] 25 (0, 0))) := by go_grown
             have hx13 := heap_alloc_new w12 (Obj.cells #[.int .i64 k12, .string t12, .slice P12 p12 q12, .slice R12 r12 s12] 25 (0, 0)); have hx12 := blk_alloc ((hb12.block _ (blk_lt HX11.out)).trans HX11.out) (Obj.cells #[.int .i64 k12, .string t12, .slice P12 p12 q12, .slice R12 r12 s12] 25 (0, 0)); have q0 := blk_cell hx12 0; have q1 := blk_cell hx12 1; have q2 := blk_cell hx12 2; have q3 := blk_cell hx12 3; have r0 := blk_cell hx13 0; have r1 := blk_cell hx13 1; have r2 := blk_cell hx13 2; have r3 := blk_cell hx13 3; simp only [List.getElem?_toArray, List.getElem?_cons_zero, List.getElem?_cons_succ] at q0 q1 q2 q3 r0 r1 r2 r3
             have hs13 := HS11.out.trans ((hb12.mono HS11.out.size).trans (hb13.mono (Nat.le_trans HS11.out.size hb12.size)))
             have HSM := Lib.hid (same_two (x := x9) (HV9.out.keep fun g hg => ⟨hg, hs13.block g (HF9.out g hg)⟩) (hV12.keep fun g hg => ⟨hg, hb13.block g (hF12 g hg)⟩) (fun g hg => Nat.lt_of_lt_of_le (HF9.out g hg) hs13.size) (fun g hg => Nat.lt_of_lt_of_le (hF12 g hg) hb13.size) (parse_sm2 HPP.out))
             have HB13 := Lib.hid (HB11.out.trans ((hb12.mono HB11.out.size).trans (hb13.mono (Nat.le_trans HB11.out.size hb12.size)))); clear hb12 hb13 hx12 hx13 hV12 hF12 hs13)
          | (go_at_call 14; (with_reducible refine HSM.out.mono ?_); rintro e' w14 ⟨rfl, hb14⟩; have HB14 := Lib.hid (HB13.out.trans (hb14.mono HB13.out.size)); clear hb14))
        go_ret
        exact ⟨rfl, HB14.out⟩
    · clear hp hV9 hF9 hb9 hb10 hx10
      rcases hc with rfl | rfl
      · go_wp2_with fail
        go_ret
        exact ⟨rfl, HB10.out⟩
      · go_wp2_with fail
        go_ret
        exact ⟨rfl, HB10.out⟩
  · have HB3 := Lib.hid (HB2.out.trans (hB3.mono HB2.out.size))
    have HX3 := Lib.hid ((hB3.block _ (blk_lt HX2.out)).trans HX2.out)
    have HS3 := Lib.hid HB3.out
    have HBK := Lib.hid (print_back HD.out hs hl)
    have HY3 := Lib.hid hY3
    have Hb3 := Lib.hid hb3
    have HLP := Lib.hid hlp
    have HMP := Lib.hid hmp
    clear hs hl hB3 hY3 hb3 hlp hmp
    go_wp2_with (go_at_call 12; (with_reducible refine (HA.out _ HB3.out).mono ?_); rintro e' w4 ⟨rfl, hb4⟩; have HB4 := Lib.hid (HB3.out.trans (hb4.mono HB3.out.size)); have HX4 := Lib.hid ((hb4.block _ (blk_lt HX3.out)).trans HX3.out); have HS4 := Lib.hid (HS3.out.trans (hb4.mono HS3.out.size)); have HG4 := Lib.hid hb4; clear hb4)
    have hP5 := parse_box HBK.out (HE.out.on HB4.out) (bytes_on HY3.out (grew_of HG4.out none) (fun _ _ => by simp)) (fun ad e => Nat.lt_of_lt_of_le (Hb3.out ad e) HG4.out.size) HLP.out (by have := HMP.out; unfold maxLen at this; omega)
    have HP5 := Lib.hid hP5
    clear hP5 HY3 Hb3 HBK HLP HMP
    generalize (printJ d x).length = pn at HP5 ⊢
    go_wp2_with (first
      | (go_at_call 13; (with_reducible refine HP5.out.mono ?_); rintro e' w5 ⟨k5, t5, P5, p5, q5, R5, r5, s5, F5, rfl, hb5, hV5, hF5⟩; have hb6 : Below w5.heap.size w5 (w5.alloc (Obj.cells #[.int .i64 k5, .string t5, .slice P5 p5 q5, .slice R5 r5 s5] 25 (0, 0))) := by go_grown
         have hx6 := heap_alloc_new w5 (Obj.cells #[.int .i64 k5, .string t5, .slice P5 p5 q5, .slice R5 r5 s5] 25 (0, 0)); have hx5 := blk_alloc ((hb5.block _ (blk_lt HX4.out)).trans HX4.out) (Obj.cells #[.int .i64 k5, .string t5, .slice P5 p5 q5, .slice R5 r5 s5] 25 (0, 0)); have q0 := blk_cell hx5 0; have q1 := blk_cell hx5 1; have q2 := blk_cell hx5 2; have q3 := blk_cell hx5 3; have r0 := blk_cell hx6 0; have r1 := blk_cell hx6 1; have r2 := blk_cell hx6 2; have r3 := blk_cell hx6 3; simp only [List.getElem?_toArray, List.getElem?_cons_zero, List.getElem?_cons_succ] at q0 q1 q2 q3 r0 r1 r2 r3
         have hs6 := HS4.out.trans ((hb5.mono HS4.out.size).trans (hb6.mono (Nat.le_trans HS4.out.size hb5.size)))
         have HSM := Lib.hid (same_two (x := x) (HV.out.keep fun g hg => ⟨hg, hs6.block g hg⟩) (hV5.keep fun g hg => ⟨hg, hb6.block g (hF5 g hg)⟩) (fun g hg => Nat.lt_of_lt_of_le hg hs6.size) (fun g hg => Nat.lt_of_lt_of_le (hF5 g hg) hb6.size) HRS.out)
         have HB6 := Lib.hid hs6; clear hb5 hb6 hx5 hx6 hV5 hF5 hs6)
      | (go_at_call 14; (with_reducible refine HSM.out.mono ?_); rintro e' w7 ⟨rfl, hb7⟩; have HB7 := Lib.hid (HB6.out.trans (hb7.mono HB6.out.size)); clear hb7)
      | (at_builtin; go_must (refine append_by (BRow.made w7 w7 (Below.refl _ _)) bs Ab cb (HYB.out _ (HB7.out.alloc HB7.out.size _)) HN.out (by simp; omega) rfl _ _ rfl rfl rfl ?_; rintro v8 w8 HR8; rw [List.nil_append] at HR8; obtain ⟨A8, c8, rfl, hY8, hb8, hl8, hm8⟩ := HR8.at; have HB8 := Lib.hid (HB7.out.trans (HR8.1.mono HB7.out.size)); have HY8 := Lib.hid hY8; have Hb8 := Lib.hid hb8; have HL8 := Lib.hid hl8; have HM8 := Lib.hid hm8; clear hY8 hb8 hl8 hm8 HR8)))
    clear q0 q1 q2 q3 r0 r1 r2 r3
    go_at_call 13
    refine (parse_gen (HE.out.on HB8.out) HY8.out (fun ad e => (Hb8.out ad e).2) HL8.out (by have := HM8.out; unfold maxLen at this; omega)).mono ?_
    rintro e' w9 ⟨k9, t9, P9, p9, q9, R9, r9, s9, at9, e9, x9, F9, rfl, hb9, hV9, hF9, hT9⟩
    have hb10 : Below w9.heap.size w9 (w9.alloc (Obj.cells #[.int .i64 k9, .string t9, .slice P9 p9 q9, .slice R9 r9 s9] 25 (0, 0))) := by go_grown
    have HB10 := Lib.hid ((HB8.out.trans (hb9.mono HB8.out.size)).trans (hb10.mono (HB8.out.trans (hb9.mono HB8.out.size)).size))
    have hx10 := heap_alloc_new w9 (Obj.cells #[.int .i64 k9, .string t9, .slice P9 p9 q9, .slice R9 r9 s9] 25 (0, 0))
    rcases hT9 with ⟨hp, rfl⟩ | ⟨q, hp, hc, rfl⟩
    · have hP := Print_any k9 t9 P9 R9 p9 q9 r9 s9 x9 (hV9.keep fun g hg => ⟨hg, hb10.block g (hF9 g hg)⟩) (HE.out.on HB10.out) (fun g hg => Nat.lt_of_lt_of_le (hF9 g hg) hb10.size) (parse_tm hp)
      have HP2 := Lib.hid hP
      have HPP := Lib.hid hp
      have HV9 := Lib.hid hV9
      have HF9 := Lib.hid hF9
      have HX10 := Lib.hid hx10
      have HS10 := Lib.hid hb10
      have r0 := blk_cell hx10 0
      have r1 := blk_cell hx10 1
      have r2 := blk_cell hx10 2
      have r3 := blk_cell hx10 3
      simp only [List.getElem?_toArray, List.getElem?_cons_zero, List.getElem?_cons_succ] at r0 r1 r2 r3
      clear hP hp hV9 hF9 hx10 hb9 hb10
      go_wp2_with fail
      go_at_call 9
      refine HP2.out.mono ?_
      rintro e' w11 ⟨⟨hs, rfl⟩ | ⟨hs, hl, rfl⟩ | ⟨hs, hl, P, p, rfl, hY11, hb11, hlp, hmp⟩, hB11⟩
      · rw [parse_sound HPP.out] at hs; cases hs
      · have HB11 := Lib.hid (HB10.out.trans (hB11.mono HB10.out.size))
        clear hs hl hB11 r0 r1 r2 r3
        go_wp2_with fail
        go_ret
        exact ⟨rfl, HB11.out⟩
      · have HB11 := Lib.hid (HB10.out.trans (hB11.mono HB10.out.size))
        have hP3 := parse_box (print_back HV9.out.deep hs hl) (HE.out.on HB11.out) hY11 hb11 hlp (by unfold maxLen at hmp; omega)
        have HP3 := Lib.hid hP3
        have hx11 := (hB11.block _ (blk_lt HX10.out)).trans HX10.out
        have HX11 := Lib.hid hx11
        have HS11 := Lib.hid (HS10.out.trans (hB11.mono HS10.out.size))
        clear hs hl hY11 hb11 hlp hmp hP3 hx11 hB11 r0 r1 r2 r3
        generalize (printJ 33 x9).length = pn at HP3 ⊢
        go_wp2_with (first
          | (go_at_call 13; (with_reducible refine HP3.out.mono ?_); rintro e' w12 ⟨k12, t12, P12, p12, q12, R12, r12, s12, F12, rfl, hb12, hV12, hF12⟩; have hb13 : Below w12.heap.size w12 (w12.alloc (Obj.cells #[.int .i64 k12, .string t12, .slice P12 p12 q12, .slice R12 r12 s12] 25 (0, 0))) := by go_grown
             have hx13 := heap_alloc_new w12 (Obj.cells #[.int .i64 k12, .string t12, .slice P12 p12 q12, .slice R12 r12 s12] 25 (0, 0)); have hx12 := blk_alloc ((hb12.block _ (blk_lt HX11.out)).trans HX11.out) (Obj.cells #[.int .i64 k12, .string t12, .slice P12 p12 q12, .slice R12 r12 s12] 25 (0, 0)); have q0 := blk_cell hx12 0; have q1 := blk_cell hx12 1; have q2 := blk_cell hx12 2; have q3 := blk_cell hx12 3; have r0 := blk_cell hx13 0; have r1 := blk_cell hx13 1; have r2 := blk_cell hx13 2; have r3 := blk_cell hx13 3; simp only [List.getElem?_toArray, List.getElem?_cons_zero, List.getElem?_cons_succ] at q0 q1 q2 q3 r0 r1 r2 r3
             have hs13 := HS11.out.trans ((hb12.mono HS11.out.size).trans (hb13.mono (Nat.le_trans HS11.out.size hb12.size)))
             have HSM := Lib.hid (same_two (x := x9) (HV9.out.keep fun g hg => ⟨hg, hs13.block g (HF9.out g hg)⟩) (hV12.keep fun g hg => ⟨hg, hb13.block g (hF12 g hg)⟩) (fun g hg => Nat.lt_of_lt_of_le (HF9.out g hg) hs13.size) (fun g hg => Nat.lt_of_lt_of_le (hF12 g hg) hb13.size) (parse_sm2 HPP.out))
             have HB13 := Lib.hid (HB11.out.trans ((hb12.mono HB11.out.size).trans (hb13.mono (Nat.le_trans HB11.out.size hb12.size)))); clear hb12 hb13 hx12 hx13 hV12 hF12 hs13)
          | (go_at_call 14; (with_reducible refine HSM.out.mono ?_); rintro e' w14 ⟨rfl, hb14⟩; have HB14 := Lib.hid (HB13.out.trans (hb14.mono HB13.out.size)); clear hb14))
        go_ret
        exact ⟨rfl, HB14.out⟩
    · clear hp hV9 hF9 hb9 hb10 hx10
      rcases hc with rfl | rfl
      · go_wp2_with fail
        go_ret
        exact ⟨rfl, HB10.out⟩
      · go_wp2_with fail
        go_ret
        exact ⟨rfl, HB10.out⟩
end Go.Proofs.YtmjooghfghmngaaDoor
