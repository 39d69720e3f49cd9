/- The law RingShifts: a ring moved as a whole. -/
import Derived.Test.YtkkdjbmdfpmkpaaRingAns
import Derived.Test.YtkkdjbmdfpmkpaaRingP
namespace Go.Proofs.Ytkkdjbmdfpmkpaa.ringShifts
open Go.RowKit

theorem mvd_lim {q d : Int × Int} (hq : Gd q) (h1 : -32768 ≤ d.1 ∧ d.1 ≤ 32767) (h2 : -32768 ≤ d.2 ∧ d.2 ≤ 32767) : IntKind.i64.wrap (q.1 + d.1) = q.1 + d.1 ∧ IntKind.i64.wrap (q.2 + d.2) = q.2 + d.2 ∧ IntKind.i64.wrap d.1 = d.1 ∧ IntKind.i64.wrap d.2 = d.2 := by
  unfold Gd at hq
  exact ⟨wrap_in (by omega) (by omega), wrap_in (by omega) (by omega), wrap_in (by omega) (by omega), wrap_in (by omega) (by omega)⟩
set_option maxHeartbeats 800000 in
theorem move_any (q d : Int × Int) (hq : Gd q) (h1 : -32768 ≤ d.1 ∧ d.1 ≤ 32767) (h2 : -32768 ≤ d.2 ∧ d.2 ≤ 32767) (g5 g6 : Nat) (w : World) (c5 : w.cell? ⟨g5, 0, none⟩ = some (.int .i16 d.1)) (c6 : w.cell? ⟨g6, 0, none⟩ = some (.int .i16 d.2)) (l5 : g5 < w.heap.size) (l6 : g6 < w.heap.size) :
    Calls Try.prog 24 #[.agg #[.int .i64 q.1, .int .i64 q.2], .pointer (some ⟨g5, 0, none⟩), .pointer (some ⟨g6, 0, none⟩)] w fun e w' => e = .returned (.agg #[.int .i64 (mvd d q).1, .int .i64 (mvd d q).2]) ∧ Below w.heap.size w w' := by
  obtain ⟨z1, z2, z3, z4⟩ := mvd_lim hq h1 h2
  have HQ := (((Hold.refl w).new #[.int .i64 q.1, .int .i64 q.2] 35).new' #[.int .i64 0, .int .i64 0] 35 (n := w.heap.size + 1) (by simp only [World.size_alloc]))
  have e5 := (HQ.1.cell (p := ⟨g5, 0, none⟩) l5).trans c5
  have e6 := (HQ.1.cell (p := ⟨g6, 0, none⟩) l6).trans c6
  have e1 : (mvd d q).1 = q.1 + d.1 := rfl
  have e2 : (mvd d q).2 = q.2 + d.2 := rfl
  rw [e1, e2]
  clear e1 e2 hq h1 h2 c5 c6
  go_enter Try.func24, Try.ntmps24
  go_upto_region 1 with (fail)
  generalize (World.alloc _ _) = W1 at HQ e5 e6 ⊢
  generalize w.heap.size + 1 = g4 at HQ ⊢
  obtain ⟨f0, f1⟩ := HQ.pt (.tail _ (.head _))
  obtain ⟨k0, k1, k2, k3⟩ := HQ.top
  have HE := HQ.set2 (.int .i64 (q.1 + d.1)) (.int .i64 (q.2 + d.2))
  obtain ⟨n1, n2, -, -⟩ := HE.top
  have HF := Lib.hid HE.1
  clear HE HQ
  go_wp2
  refine bodyPost_ret (v := .agg #[.int .i64 (q.1 + d.1), .int .i64 (q.2 + d.2)]) ?_ rfl ⟨rfl, HF.out⟩
  simp [results, Try.results24, go_sem, n1, n2]

theorem gdL_one {a : Int × Int} : gdL [a] = true ↔ Gd a := by simp [gdL, gd_iff]
theorem gdL_snoc {ps : List (Int × Int)} {a : Int × Int} (h : gdL ps = true) (ha : Gd a) : gdL (ps ++ [a]) = true := by
  rw [gdL_iff] at *
  intro x hx
  rcases List.mem_append.1 hx with hx | hx
  · exact h x hx
  · obtain rfl := List.mem_singleton.1 hx; exact ha

set_option maxRecDepth 100000 in
set_option maxHeartbeats 4000000 in
theorem law_walk (ps : List (Int × Int)) (A : Option Addr) (cap : Nat) (d p : Int × Int) (h1 : -32768 ≤ d.1 ∧ d.1 ≤ 32767) (h2 : -32768 ≤ d.2 ∧ d.2 ≤ 32767) (hb : ps.length * 16 ≤ 140737488355328) (hnil : NilOk A cap) (w : World) (hr : Pts w w.heap.size A ps) :
    Calls Try.prog 8 #[.slice A ps.length cap, .int .i16 d.1, .int .i16 d.2, .agg #[.int .i64 p.1, .int .i64 p.2]] w fun e w' => e = .returned (.bool true) ∧ Below w.heap.size w w' := by
  have HN := Lib.hid (show ps.length ≤ maxLen by unfold maxLen; omega)
  have HR := Lib.hid hr
  have HOWN := Lib.hid (fun W (h : Below w.heap.size w W) => own_any ps A cap W (hr.on h) hnil hb)
  have HBB := Lib.hid hb
  have HD1 := Lib.hid h1
  have HD2 := Lib.hid h2
  clear hr hnil h1 h2 hb
  have HQ := ((((Hold.refl w).new #[.int .i16 d.1] 48).new' #[.int .i16 d.2] 48 (n := w.heap.size + 1) (by simp only [World.size_alloc])).new' #[.int .i64 p.1, .int .i64 p.2] 35 (n := w.heap.size + 1 + 1) (by simp only [World.size_alloc]))
  go_enter Try.func8, Try.ntmps8
  go_upto_region 1 with (fail)
  generalize (World.alloc _ _) = W1 at HQ ⊢
  generalize w.heap.size + 1 + 1 = g7 at HQ ⊢
  generalize w.heap.size + 1 = g6 at HQ ⊢
  obtain ⟨g5, hg5⟩ : ∃ g, w.heap.size = g := ⟨_, rfl⟩
  rw [hg5] at HQ ⊢
  have HG5 := Lib.hid hg5
  clear hg5
  go_wp2_with fail
  go_at_call 12
  refine (ring_answers _).mono ?_
  rintro e w2 ⟨rfl, hB⟩
  replace HQ := HQ.on hB
  clear hB
  by_cases hl : 128 < ps.length
  · have hl' : (128 : Int) < (ps.length : Int) := by omega
    clear hl
    go_wp2_with fail
    go_at_call 12
    refine (ring_answers _).mono ?_
    rintro e w3 ⟨rfl, hB⟩
    have HK := Lib.hid (HQ.on hB).1
    clear hB HQ
    go_wp2
    go_ret
    rw [HG5.out]
    exact ⟨rfl, by have := HK.out; rwa [HG5.out] at this⟩
  · have hl' : ¬ (128 : Int) < (ps.length : Int) := by omega
    have HL := Lib.hid hl
    clear hl
    go_wp2_with fail
    have hW : Below w.heap.size w w2 := HQ.1
    have HV0 : Row w2 (.slice none 0 0) [] w2 := Row.nil (Below.refl _ _)
    go_loopg [10, 11] ps.length (fun g v i wr => ∃ k : Nat, k ≤ ps.length ∧ g = ps.length - k ∧ i = .int .i64 k ∧ gdL (ps.take k) = true ∧ gdL ((ps.take k).map (mvd d)) = true ∧ Row w2 v ((ps.take k).map (mvd d)) wr)
    case atStart => exact ⟨0, Nat.zero_le _, rfl, rfl, rfl, rfl, HV0⟩
    case round =>
      clear HV0
      obtain ⟨k, hk, hgk, rfl, hga, hgb, HV⟩ := hrel
      have HGK := Lib.hid hgk
      have HGA := Lib.hid hga
      have HGB := Lib.hid hgb
      clear hgk hga hgb
      by_cases hlt : k < ps.length
      · have HX := HQ.on HV.1
        obtain ⟨ad, rfl, hadb, d0, d1⟩ := HR.out.at HX.1 hlt
        have HST : Hid (ps.take (k + 1) = ps.take k ++ [ps[k]]) := List.take_succ_eq_append_getElem hlt
        have b0 : (0 : Int) ≤ (k : Int) := by omega
        have b1 : (k : Int) < (ps.length : Int) := by omega
        have b9 : ps.length ≤ 128 := by have := HL.out; omega
        have HFP : Hid (FP w (ad.add (k * 2)) ps[k]) := by
          obtain ⟨ad', e, c⟩ := HR.out.fp hlt (Nat.mod_eq_of_lt hlt)
          obtain rfl := Option.some.inj e
          rw [nx_lt hlt] at c
          exact c
        generalize ps[k] = a at *
        go_wp2_with fail
        go_at_call 16
        refine (ref_good_one a _ _ _).mono ?_
        rintro e w3 ⟨rfl, hB⟩
        have HY := (HX.alloc (Obj.cells #[.int .i64 a.1, .int .i64 a.2] 35)).on (hB.mono (by simp only [World.size_alloc]; omega))
        have HV3 := (HV.alloc (Obj.cells #[.int .i64 a.1, .int .i64 a.2] 35)).on (hB.mono (by simp only [World.size_alloc]; omega))
        clear hB HX HV d0 d1
        cases hg : gdL [a]
        · have HK := Lib.hid HY.1
          clear HY HV3
          go_wp2
          go_ret
          rw [HG5.out]
          exact ⟨rfl, by have := HK.out; rwa [HG5.out] at this⟩
        · have HGa : Hid (Gd a) := gdL_one.1 hg
          obtain ⟨d0, d1⟩ := HY.fp HFP.out
          go_wp2_with fail
          go_at_call 24
          refine (move_any a d HGa.out HD1.out HD2.out g5 g6 _ (HY.cell (.tail _ (.tail _ (.head _))) 0) (HY.cell (.tail _ (.head _)) 0) (HY.lt (.tail _ (.tail _ (.head _)))) (HY.lt (.tail _ (.head _)))).mono ?_
          rintro e w4 ⟨rfl, hB⟩
          replace HY := HY.on hB
          replace HV3 := HV3.on hB
          clear hB d0 d1 hg
          go_wp2_with fail
          go_at_call 16
          refine (ref_good_one (mvd d a) _ _ _).mono ?_
          rintro e w5 ⟨rfl, hB⟩
          replace HY := (HY.alloc (Obj.cells #[.int .i64 (mvd d a).1, .int .i64 (mvd d a).2] 35)).on (hB.mono (by simp only [World.size_alloc]; omega))
          replace HV3 := (HV3.alloc (Obj.cells #[.int .i64 (mvd d a).1, .int .i64 (mvd d a).2] 35)).on (hB.mono (by simp only [World.size_alloc]; omega))
          clear hB
          cases hg : gdL [mvd d a]
          · have HK := Lib.hid HY.1
            clear HY HV3
            go_wp2
            go_ret
            rw [HG5.out]
            exact ⟨rfl, by have := HK.out; rwa [HG5.out] at this⟩
          · have HGm : Hid (Gd (mvd d a)) := gdL_one.1 hg
            obtain ⟨d0, d1⟩ := HY.fp HFP.out
            clear hg
            go_wp2_with fail
            go_at_call 24
            refine (move_any a d HGa.out HD1.out HD2.out g5 g6 _ (HY.cell (.tail _ (.tail _ (.head _))) 0) (HY.cell (.tail _ (.head _)) 0) (HY.lt (.tail _ (.tail _ (.head _)))) (HY.lt (.tail _ (.head _)))).mono ?_
            rintro e w6 ⟨rfl, hB⟩
            replace HV3 := HV3.on hB
            have HLN := Lib.hid (show ((ps.take k).map (mvd d)).length ≤ 1000000000 by rw [List.length_map, List.length_take]; omega)
            have HT1 : Hid (gdL (ps.take (k + 1)) = true) := by unfold Hid; rw [HST.out]; exact gdL_snoc HGA.out HGa.out
            have HTM : Hid ((ps.take (k + 1)).map (mvd d) = (ps.take k).map (mvd d) ++ [mvd d a]) := by unfold Hid; rw [HST.out, List.map_append]; rfl
            have HT2 : Hid (gdL ((ps.take (k + 1)).map (mvd d)) = true) := by unfold Hid; rw [HTM.out]; exact gdL_snoc HGB.out HGm.out
            clear hB d0 d1 HY
            go_wp2_with (at_builtin; refine append_pt _ Try.underlying23 HV3 HLN.out (mvd d a) _ rfl _ _ rfl rfl _ rfl ?_; rintro v' w7 HR7)
            go_roundg (ps.length - (k + 1))
            case measure => have := HGK.out; omega
            case rel => exact ⟨k + 1, by omega, rfl, by go_num, HT1.out, HT2.out, by rw [HTM.out]; exact HR7⟩
      · obtain rfl : k = ps.length := by omega
        have hga := HGA.out
        have hgb := HGB.out
        rw [List.take_length] at hga hgb HV
        have HGP := Lib.hid hga
        have HGM := Lib.hid hgb
        clear hga hgb HGA HGB
        replace HQ := HQ.on HV.1
        obtain ⟨A2, c2, rfl, hp2, hn2⟩ := HV.nilOk
        rw [List.length_map]
        have HP2 := Lib.hid (fun W (h : Below wr.heap.size wr W) => hp2.on h)
        have HOW2 := Lib.hid (fun W (h : Below wr.heap.size wr W) => own_any (ps.map (mvd d)) A2 c2 W (hp2.on h) hn2 (by rw [List.length_map]; exact HBB.out))
        clear hp2 hn2 HV
        have hwr : Below w.heap.size w wr := HQ.1
        have HWR := Lib.hid hwr
        have HS := Hold.refl wr
        clear hwr hW
        obtain ⟨f0, f1⟩ := HQ.pt (.head _)
        go_wp2_with fail
        go_at_call 16
        refine (ref_good_one p _ _ _).mono ?_
        rintro e w3 ⟨rfl, hB⟩
        replace HQ := (HQ.alloc (Obj.cells #[.int .i64 p.1, .int .i64 p.2] 35)).on (hB.mono (by simp only [World.size_alloc]; omega))
        replace HS := (HS.alloc (Obj.cells #[.int .i64 p.1, .int .i64 p.2] 35)).on (hB.mono (by simp only [World.size_alloc]; omega))
        clear hB f0 f1
        cases hg : gdL [p]
        · have HK := Lib.hid HQ.1
          clear HQ HS
          go_wp2
          go_ret
          rw [HG5.out]
          exact ⟨rfl, by have := HK.out; rwa [HG5.out] at this⟩
        · have HGp : Hid (Gd p) := gdL_one.1 hg
          obtain ⟨f0, f1⟩ := HQ.pt (.head _)
          clear hg
          go_wp2_with fail
          go_at_call 24
          refine (move_any p d HGp.out HD1.out HD2.out g5 g6 _ (HQ.cell (.tail _ (.tail _ (.head _))) 0) (HQ.cell (.tail _ (.head _)) 0) (HQ.lt (.tail _ (.tail _ (.head _)))) (HQ.lt (.tail _ (.head _)))).mono ?_
          rintro e w4 ⟨rfl, hB⟩
          replace HQ := HQ.on hB
          replace HS := HS.on hB
          clear hB f0 f1
          go_wp2_with fail
          go_at_call 16
          refine (ref_good_one (mvd d p) _ _ _).mono ?_
          rintro e w5 ⟨rfl, hB⟩
          replace HQ := (HQ.alloc (Obj.cells #[.int .i64 (mvd d p).1, .int .i64 (mvd d p).2] 35)).on (hB.mono (by simp only [World.size_alloc]; omega))
          replace HS := (HS.alloc (Obj.cells #[.int .i64 (mvd d p).1, .int .i64 (mvd d p).2] 35)).on (hB.mono (by simp only [World.size_alloc]; omega))
          clear hB
          cases hg : gdL [mvd d p]
          · have HK := Lib.hid HQ.1
            clear HQ HS
            go_wp2
            go_ret
            rw [HG5.out]
            exact ⟨rfl, by have := HK.out; rwa [HG5.out] at this⟩
          · obtain ⟨t1, t2, t3, t4, t5, t6⟩ := told_shifts HGP.out HGM.out HGp.out (gdL_one.1 hg)
            have hlm : (ps.map (mvd d)).length = ps.length := List.length_map _
            have ha2 := fun A c W h => Area_any (ps.map (mvd d)) A c (by rw [hlm]; exact HN.out) W h
            have hc2 := fun A c W h => Check_any (ps.map (mvd d)) A c (by rw [hlm]; exact HN.out) W h
            have hs2 := fun A c W h => Side_any (ps.map (mvd d)) A c (mvd d p) (by rw [hlm]; exact HN.out) W h
            simp only [t1, t2, t3, t4, t5, t6, hlm] at ha2 hc2 hs2
            have HA2 := Lib.hid ha2
            have HC2 := Lib.hid hc2
            have HS2 := Lib.hid hs2
            clear ha2 hc2 hs2 t1 t2 t3 t4 t5 t6 hg
            go_wp2_with fail
            go_at_call 10
            refine (HOWN.out _ HQ.1).mono ?_
            rintro e w6 ⟨v, rfl, HV⟩
            obtain ⟨A3, c3, rfl, hp3⟩ := HV.pts
            replace HQ := HQ.on HV.1
            replace HS := HS.on HV.1
            have HP3 := Lib.hid hp3
            clear HV hp3
            go_wp2_with fail
            go_at_call 9
            refine (Area_any ps A3 c3 HN.out _ HP3.out).mono ?_
            rintro e w7 ⟨rfl, hB⟩
            replace HQ := (HQ.on hB).new #[.int .i64 (arH ps), .int .u64 (arL ps)] 26
            replace HS := (HS.on hB).alloc (Obj.cells #[.int .i64 (arH ps), .int .u64 (arL ps)] 26)
            clear hB HP3
            go_upto_region 14 with (fail)
            generalize (World.alloc w7 _) = W7 at HQ HS ⊢
            generalize w7.heap.size = g12 at HQ ⊢
            go_wp2_with fail
            go_at_call 10
            refine (by have h := HOW2.out _ HS.1; rw [hlm] at h; exact h : Calls _ _ _ _ _).mono ?_
            rintro e w8 ⟨v, rfl, HV⟩
            obtain ⟨A3, c3, rfl, hp3⟩ := HV.pts
            replace HQ := HQ.on HV.1
            replace HS := HS.on HV.1
            have HP3 := Lib.hid hp3
            clear HV hp3
            rw [hlm]
            go_wp2_with fail
            go_at_call 9
            refine (HA2.out A3 c3 _ HP3.out).mono ?_
            rintro e w9 ⟨rfl, hB⟩
            replace HQ := (HQ.on hB).new #[.int .i64 (arH ps), .int .u64 (arL ps)] 26
            replace HS := (HS.on hB).alloc (Obj.cells #[.int .i64 (arH ps), .int .u64 (arL ps)] 26)
            clear hB HP3
            go_upto_region 15 with (fail)
            generalize (World.alloc w9 _) = W9 at HQ HS ⊢
            generalize w9.heap.size = g14 at HQ ⊢
            have HOWNL := Lib.hid (fun W (h : Hold w [(g14, #[.int .i64 (arH ps), .int .u64 (arL ps)], 26), (g12, #[.int .i64 (arH ps), .int .u64 (arL ps)], 26), (g7, #[.int .i64 p.1, .int .i64 p.2], 35), (g6, #[.int .i16 d.2], 48), (g5, #[.int .i16 d.1], 48)] W) => HOWN.out W h.1)
            have how2 := fun W (h : Hold wr [] W) => HOW2.out W h.1
            simp only [hlm] at how2
            have HOW2L := Lib.hid how2
            have MOVEL := Lib.hid (fun W (h : Hold w [(g14, #[.int .i64 (arH ps), .int .u64 (arL ps)], 26), (g12, #[.int .i64 (arH ps), .int .u64 (arL ps)], 26), (g7, #[.int .i64 p.1, .int .i64 p.2], 35), (g6, #[.int .i16 d.2], 48), (g5, #[.int .i16 d.1], 48)] W) => move_any p d HGp.out HD1.out HD2.out g5 g6 W (h.cell (.tail _ (.tail _ (.tail _ (.tail _ (.head _))))) 0) (h.cell (.tail _ (.tail _ (.tail _ (.head _)))) 0) (h.lt (.tail _ (.tail _ (.tail _ (.tail _ (.head _)))))) (h.lt (.tail _ (.tail _ (.tail _ (.head _))))))
            clear how2
            go_cut [16, 17] (fun s16 s17 wx => s16 = .int .i64 (sdV ps p) ∧ s17 = .int .i64 (sdE ps p) ∧ Hold w [(g14, #[.int .i64 (arH ps), .int .u64 (arL ps)], 26), (g12, #[.int .i64 (arH ps), .int .u64 (arL ps)], 26), (g7, #[.int .i64 p.1, .int .i64 p.2], 35), (g6, #[.int .i16 d.2], 48), (g5, #[.int .i16 d.1], 48)] wx ∧ Hold wr [] wx)
            case first =>
              go_region_held3 (fun W => W.cell? ⟨g7, 0, none⟩ = some (.int .i64 p.1) ∧ W.cell? ⟨g7, 1, none⟩ = some (.int .i64 p.2)) (first | exact Hold.pt (L := [(g14, #[.int .i64 (arH ps), .int .u64 (arL ps)], 26), (g12, #[.int .i64 (arH ps), .int .u64 (arL ps)], 26), (g7, #[.int .i64 p.1, .int .i64 p.2], 35), (g6, #[.int .i16 d.2], 48), (g5, #[.int .i16 d.1], 48)]) (by assumption) (.tail _ (.tail _ (.head _))) | exact Hold.pt (L := [(g14, #[.int .i64 (arH ps), .int .u64 (arL ps)], 26), (g12, #[.int .i64 (arH ps), .int .u64 (arL ps)], 26), (g7, #[.int .i64 p.1, .int .i64 p.2], 35), (g6, #[.int .i16 d.2], 48), (g5, #[.int .i16 d.1], 48)]) (Hold.drew (by assumption)) (.tail _ (.tail _ (.head _)))) (first
                | (go_at_call 10; (with_reducible refine (HOWNL.out _ (by first | assumption | exact Hold.drew (by assumption))).mono ?_); rintro e w' ⟨v, rfl, HV⟩; obtain ⟨A3, c3, rfl, hp3⟩ := HV.pts; have HQ' := Hold.on (by first | assumption | exact Hold.drew (by assumption) : Hold w [(g14, #[.int .i64 (arH ps), .int .u64 (arL ps)], 26), (g12, #[.int .i64 (arH ps), .int .u64 (arL ps)], 26), (g7, #[.int .i64 p.1, .int .i64 p.2], 35), (g6, #[.int .i16 d.2], 48), (g5, #[.int .i16 d.1], 48)] _) HV.1; have HS' := Hold.on (by first | assumption | exact Hold.drew (by assumption) : Hold wr [] _) HV.1; have HP3 := Lib.hid hp3; clear hp3 HV)
                | (go_at_call 15; (with_reducible refine (Side_any ps _ _ p HN.out _ HP3.out).mono ?_); rintro e w' ⟨rfl, hB⟩; have HQ' := Hold.on (by first | assumption | exact Hold.drew (by assumption) : Hold w [(g14, #[.int .i64 (arH ps), .int .u64 (arL ps)], 26), (g12, #[.int .i64 (arH ps), .int .u64 (arL ps)], 26), (g7, #[.int .i64 p.1, .int .i64 p.2], 35), (g6, #[.int .i16 d.2], 48), (g5, #[.int .i16 d.1], 48)] _) hB; have HS' := Hold.on (by first | assumption | exact Hold.drew (by assumption) : Hold wr [] _) hB))
              go_wp2_with fail
              go_meet
              exact ⟨rfl, rfl, HQ', HS'⟩
            case rest =>
              clear HQ HS
              obtain ⟨rfl, rfl, HQ, HS⟩ := hcut
              go_upto_region 16 with (fail)
              go_cut [18, 19] (fun s18 s19 wx => s18 = .int .i64 (sdV ps p) ∧ s19 = .int .i64 (sdE ps p) ∧ Hold w [(g14, #[.int .i64 (arH ps), .int .u64 (arL ps)], 26), (g12, #[.int .i64 (arH ps), .int .u64 (arL ps)], 26), (g7, #[.int .i64 p.1, .int .i64 p.2], 35), (g6, #[.int .i16 d.2], 48), (g5, #[.int .i16 d.1], 48)] wx ∧ Hold wr [] wx)
              case first =>
                go_region_held3 (fun W => W.cell? ⟨g7, 0, none⟩ = some (.int .i64 p.1) ∧ W.cell? ⟨g7, 1, none⟩ = some (.int .i64 p.2)) (first | exact Hold.pt (L := [(g14, #[.int .i64 (arH ps), .int .u64 (arL ps)], 26), (g12, #[.int .i64 (arH ps), .int .u64 (arL ps)], 26), (g7, #[.int .i64 p.1, .int .i64 p.2], 35), (g6, #[.int .i16 d.2], 48), (g5, #[.int .i16 d.1], 48)]) (by assumption) (.tail _ (.tail _ (.head _))) | exact Hold.pt (L := [(g14, #[.int .i64 (arH ps), .int .u64 (arL ps)], 26), (g12, #[.int .i64 (arH ps), .int .u64 (arL ps)], 26), (g7, #[.int .i64 p.1, .int .i64 p.2], 35), (g6, #[.int .i16 d.2], 48), (g5, #[.int .i16 d.1], 48)]) (Hold.drew (by assumption)) (.tail _ (.tail _ (.head _)))) (first
                  | (go_at_call 10; (with_reducible refine (HOW2L.out _ (by first | assumption | exact Hold.drew (by assumption))).mono ?_); rintro e w' ⟨v, rfl, HV⟩; obtain ⟨A3, c3, rfl, hp3⟩ := HV.pts; (rw [hlm]); have HQ' := Hold.on (by first | assumption | exact Hold.drew (by assumption) : Hold w [(g14, #[.int .i64 (arH ps), .int .u64 (arL ps)], 26), (g12, #[.int .i64 (arH ps), .int .u64 (arL ps)], 26), (g7, #[.int .i64 p.1, .int .i64 p.2], 35), (g6, #[.int .i16 d.2], 48), (g5, #[.int .i16 d.1], 48)] _) HV.1; have HS' := Hold.on (by first | assumption | exact Hold.drew (by assumption) : Hold wr [] _) HV.1; have HP3 := Lib.hid hp3; clear hp3 HV)
                  | (go_at_call 24; (with_reducible refine (MOVEL.out _ (by first | assumption | exact Hold.drew (by assumption))).mono ?_); rintro e w' ⟨rfl, hB⟩; have HQ' := Hold.on (by first | assumption | exact Hold.drew (by assumption) : Hold w [(g14, #[.int .i64 (arH ps), .int .u64 (arL ps)], 26), (g12, #[.int .i64 (arH ps), .int .u64 (arL ps)], 26), (g7, #[.int .i64 p.1, .int .i64 p.2], 35), (g6, #[.int .i16 d.2], 48), (g5, #[.int .i16 d.1], 48)] _) hB; have HS' := Hold.on (by first | assumption | exact Hold.drew (by assumption) : Hold wr [] _) hB; (first | (have HP4 := Lib.hid (HP3.out.on hB)) | skip))
                  | (go_at_call 15; (with_reducible refine (HS2.out _ _ _ (by first | exact HP4.out | exact HP3.out)).mono ?_); rintro e w' ⟨rfl, hB⟩; have HQ' := Hold.on (by first | assumption | exact Hold.drew (by assumption) : Hold w [(g14, #[.int .i64 (arH ps), .int .u64 (arL ps)], 26), (g12, #[.int .i64 (arH ps), .int .u64 (arL ps)], 26), (g7, #[.int .i64 p.1, .int .i64 p.2], 35), (g6, #[.int .i16 d.2], 48), (g5, #[.int .i16 d.1], 48)] _) hB; have HS' := Hold.on (by first | assumption | exact Hold.drew (by assumption) : Hold wr [] _) hB))
                go_wp2_with fail
                go_meet
                exact ⟨rfl, rfl, HQ', HS'⟩
              case rest =>
                clear HQ HS
                obtain ⟨rfl, rfl, HQ, HS⟩ := hcut
                obtain ⟨f0, f1⟩ := HQ.pt (.head _)
                obtain ⟨f2, f3⟩ := HQ.pt (.tail _ (.head _))
                go_wp2_with fail
                go_at_call 10
                refine (HOWN.out _ HQ.1).mono ?_
                rintro e w10 ⟨v, rfl, HV⟩
                obtain ⟨A3, c3, rfl, hp3⟩ := HV.pts
                replace HQ := HQ.on HV.1
                replace HS := HS.on HV.1
                have HP3 := Lib.hid hp3
                clear HV hp3 f0 f1 f2 f3
                go_wp2_with fail
                go_at_call 13
                refine (Check_any ps A3 c3 HN.out _ HP3.out).mono ?_
                rintro e w11 ⟨rfl, hB⟩
                replace HQ := HQ.on hB
                replace HS := HS.on hB
                clear hB HP3
                go_wp2_with fail
                go_at_call 10
                refine (by have h := HOW2.out _ HS.1; rw [hlm] at h; exact h : Calls _ _ _ _ _).mono ?_
                rintro e w12 ⟨v, rfl, HV⟩
                obtain ⟨A3, c3, rfl, hp3⟩ := HV.pts
                replace HQ := HQ.on HV.1
                have HP3 := Lib.hid hp3
                clear HV hp3 HS
                rw [hlm]
                go_wp2_with fail
                go_at_call 13
                refine (HC2.out A3 c3 _ HP3.out).mono ?_
                rintro e w13 ⟨rfl, hB⟩
                have HK := Lib.hid (HQ.on hB).1
                clear hB HP3 HQ HA2 HC2 HS2 HP2 HOW2 HOWN HOWNL HOW2L MOVEL hlm
                go_wp2
                go_ret
                rw [HG5.out]
                exact ⟨rfl, by have := HK.out; rwa [HG5.out] at this⟩
end Go.Proofs.Ytkkdjbmdfpmkpaa.ringShifts
