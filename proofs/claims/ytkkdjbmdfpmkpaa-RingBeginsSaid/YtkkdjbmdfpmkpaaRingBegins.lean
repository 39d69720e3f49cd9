/- The law RingBegins: nothing hangs on where a ring begins; turned, a sound one is none. -/
import Derived.Test.YtkkdjbmdfpmkpaaRingAns
import Derived.Test.YtkkdjbmdfpmkpaaRingP
namespace Go.Proofs.Ytkkdjbmdfpmkpaa.ringBegins
open Go.RowKit

set_option maxRecDepth 100000 in
set_option maxHeartbeats 2000000 in
theorem law_walk (ps : List (Int × Int)) (A : Option Addr) (cap : Nat) (m : Nat) (p : Int × Int) (hm : m < 256) (hb : ps.length * 16 ≤ 140737488355328) (hnil : NilOk A cap) (hcap : ps.length ≤ cap) (w : World) (hr : Pts w w.heap.size A ps) :
    Calls Try.prog 6 #[.slice A ps.length cap, .int .u8 m, .agg #[.int .i64 p.1, .int .i64 p.2]] w fun e w' => e = .returned (.bool true) ∧ Below w.heap.size w w' := by
  have HN := Lib.hid (show ps.length ≤ maxLen by unfold maxLen; omega)
  have HR := Lib.hid hr
  have HBB := Lib.hid hb
  have HNIL := Lib.hid hnil
  have HCAP := Lib.hid hcap
  clear hr hnil hb hcap
  have HQ := (Hold.refl w).new #[.int .i64 p.1, .int .i64 p.2] 35
  go_enter Try.func6, Try.ntmps6
  go_upto_region 1 with (fail)
  generalize (World.alloc w _) = W1 at HQ ⊢
  obtain ⟨g5, hg5⟩ : ∃ g, w.heap.size = g := ⟨_, rfl⟩
  rw [hg5] at HQ ⊢
  have HG5 := Lib.hid hg5
  clear hg5
  go_wp2_with fail
  go_at_call 12
  refine (ring_answers _).mono ?_
  rintro e w2 ⟨rfl, hB⟩
  replace HQ := HQ.on hB
  clear hB
  by_cases h0 : ps.length = 0
  · have h0' : ((ps.length : Int) == 0) = true := by rw [beq_iff_eq]; omega
    clear h0
    go_wp2_with fail
    go_at_call 12
    refine (ring_answers _).mono ?_
    rintro e w3 ⟨rfl, hB⟩
    have HK := Lib.hid (HQ.on hB).1
    clear hB HQ
    go_wp2
    go_ret
    rw [HG5.out]
    exact ⟨rfl, by have := HK.out; rwa [HG5.out] at this⟩
  · by_cases hl : 128 < ps.length
    · have hl' : (128 : Int) < (ps.length : Int) := by omega
      have h00 : ((ps.length : Int) == 0) = false := by rw [beq_eq_false_iff_ne]; omega
      clear h0 hl
      go_wp2_with fail
      go_at_call 12
      refine (ring_answers _).mono ?_
      rintro e w3 ⟨rfl, hB⟩
      have HK := Lib.hid (HQ.on hB).1
      clear hB HQ
      go_wp2
      go_ret
      rw [HG5.out]
      exact ⟨rfl, by have := HK.out; rwa [HG5.out] at this⟩
    · obtain ⟨k, hk, e1, e2, e3⟩ := any_place (show 0 < ps.length by omega) m 0 rfl
      obtain ⟨ad, rfl, hadb, -, -⟩ := HR.out.at (Below.refl _ w) hk
      simp only [Int.natCast_zero, Int.add_zero] at e2 e3
      have hl' : ¬ (128 : Int) < (ps.length : Int) := by omega
      have h0' : ¬ (ps.length : Int) = 0 := by omega
      have h00 : ((ps.length : Int) == 0) = false := by rw [beq_eq_false_iff_ne]; omega
      have z8 : ¬ ps = [] := fun e => h0 (by rw [e]; rfl)
      have zc : IntKind.i64.wrap (m : Int) = (m : Int) := wrap_in (by omega) (by omega)
      have b0 : (0 : Int) ≤ (k : Int) := by omega
      have b1 : (k : Int) < (ps.length : Int) := by omega
      have b2 : (k : Int) ≤ (ps.length : Int) := by omega
      have b3 : (ps.length : Int) ≤ (cap : Int) := by have := HCAP.out; omega
      have b4 : (k : Int) ≤ (cap : Int) := by omega
      have b5 : k ≤ ps.length := by omega
      have b6 : ps.length ≤ cap := HCAP.out
      have b7 : k < cap := by omega
      have b9 : ps.length ≤ 128 := by omega
      have b10 : ¬ cap = k := by omega
      have hown := fun W (h : Hold w [(g5, #[.int .i64 p.1, .int .i64 p.2], 35)] W) => own_any (ps.drop k) (some (ad.add (k * 2))) (cap - k) W ((Pts.drop HR.out hk).on h.1) (fun e => by cases e) (by rw [List.length_drop]; omega)
      simp only [List.length_drop] at hown
      have HOWD := Lib.hid hown
      clear hown
      go_upto_region 4 with (fail)
      go_cut [8] (fun s8 wx => ∃ A8 c8, s8 = .slice A8 (ps.drop k ++ ps.take k).length c8 ∧ Pts wx wx.heap.size A8 (ps.drop k ++ ps.take k) ∧ NilOk A8 c8 ∧ Hold w [(g5, #[.int .i64 p.1, .int .i64 p.2], 35)] wx)
      case first =>
        go_region_held3 (fun W => True) (trivial) (first
          | (go_at_call 10; (with_reducible refine (HOWD.out _ (by first | assumption | exact Hold.drew (by assumption))).mono ?_); rintro e w' ⟨v, rfl, HV⟩; have HS' := Hold.on (by first | assumption | exact Hold.drew (by assumption)) HV.1)
          | (refine step_append_pts _ Try.underlying23 HV (ps.take k) (some ad) cap (Pts.take k (HR.out.on HS'.1)) (fun e => by cases e) (by rw [List.length_drop, List.length_take]; omega) rfl _ _ rfl rfl (by rw [List.length_take, Nat.min_eq_left (by omega)]; rfl) ?_; rintro v' w1 HR1))
        obtain ⟨A8, c8, rfl, hp8, hn8⟩ := HR1.nilOk
        have HQ8 := Hold.on (Hold.drew HQ) HR1.1
        go_wp2_with fail
        go_meet
        exact ⟨A8, c8, rfl, hp8, hn8, HQ8⟩
      case rest =>
        obtain ⟨A8, c8, rfl, hp8, hn8, HQ8⟩ := hcut
        have hlm : (ps.drop k ++ ps.take k).length = ps.length := by rw [List.length_append, List.length_drop, List.length_take]; omega
        obtain ⟨t1, t2, t3, t4, t5, t6⟩ := told_begins hk p
        clear HQ HOWD
        have HQ := HQ8
        clear HQ8 z8 zc e1 e2 e3
        generalize ps.drop k ++ ps.take k = sq at *
        have how2 := fun W (h : Hold wc [] W) => own_any sq A8 c8 W (hp8.on h.1) hn8 (by rw [hlm]; exact HBB.out)
        have ha2 := fun A c W h => Area_any sq A c (by rw [hlm]; exact HN.out) W h
        have hc2 := fun A c W h => Check_any sq A c (by rw [hlm]; exact HN.out) W h
        have hs2 := fun A c W h => Side_any sq A c p (by rw [hlm]; exact HN.out) W h
        simp only [t1, t2, t3, t4, t5, t6, hlm] at how2 ha2 hc2 hs2
        have HOW2 := Lib.hid how2
        have HA2 := Lib.hid ha2
        have HC2 := Lib.hid hc2
        have HS2 := Lib.hid hs2
        have hown := fun W (h : Below w.heap.size w W) => own_any ps (some ad) cap W (HR.out.on h) HNIL.out HBB.out
        have HOWN := Lib.hid hown
        have har := fun A c W h => Area_any ps.reverse A c (by rw [List.length_reverse]; exact HN.out) W h
        have hcr := fun A c W h => Check_any ps.reverse A c (by rw [List.length_reverse]; exact HN.out) W h
        obtain ⟨r1, r2, r3⟩ := told_turned ps
        simp only [r1, List.length_reverse] at har hcr
        have HAR := Lib.hid har
        have HCR := Lib.hid hcr
        have HR3 := Lib.hid r3
        have HTS : Hid (arE ps = 0 → _) := fun h => turned_sum h
        have HS := Hold.refl wc
        clear how2 ha2 hc2 hs2 hown har hcr r1 r2 r3 t1 t2 t3 t4 t5 t6 hp8 hn8
        rw [hlm]
        go_wp2_with fail
        go_at_call 10
        refine (HOWN.out _ HQ.1).mono ?_
        rintro e w6 ⟨v, rfl, HV⟩
        obtain ⟨A3, c3, rfl, hp3⟩ := HV.pts
        replace HQ := HQ.on HV.1
        replace HS := HS.on HV.1
        have HP3 := Lib.hid hp3
        clear HV hp3
        go_wp2_with fail
        go_at_call 9
        refine (Area_any ps A3 c3 HN.out _ HP3.out).mono ?_
        rintro e w7 ⟨rfl, hB⟩
        replace HQ := (HQ.on hB).new #[.int .i64 (arH ps), .int .u64 (arL ps)] 26
        replace HS := (HS.on hB).alloc (Obj.cells #[.int .i64 (arH ps), .int .u64 (arL ps)] 26)
        clear hB HP3
        go_upto_region 6 with (fail)
        generalize (World.alloc w7 _) = W7 at HQ HS ⊢
        generalize w7.heap.size = g9 at HQ ⊢
        go_wp2_with fail
        go_at_call 10
        refine (HOW2.out _ HS).mono ?_
        rintro e w6 ⟨v, rfl, HV⟩
        obtain ⟨A3, c3, rfl, hp3⟩ := HV.pts
        replace HQ := HQ.on HV.1
        replace HS := HS.on HV.1
        have HP3 := Lib.hid hp3
        clear HV hp3
        rw [hlm]
        go_wp2_with fail
        go_at_call 9
        refine (HA2.out A3 c3 _ HP3.out).mono ?_
        rintro e w7 ⟨rfl, hB⟩
        replace HQ := (HQ.on hB).new #[.int .i64 (arH ps), .int .u64 (arL ps)] 26
        replace HS := (HS.on hB).alloc (Obj.cells #[.int .i64 (arH ps), .int .u64 (arL ps)] 26)
        clear hB HP3
        go_upto_region 7 with (fail)
        generalize (World.alloc w7 _) = W7 at HQ HS ⊢
        generalize w7.heap.size = g11 at HQ ⊢
        go_wp2_with fail
        go_at_call 10
        refine (HOWN.out _ HQ.1).mono ?_
        rintro e w6 ⟨v, rfl, HV⟩
        obtain ⟨A3, c3, rfl, hp3, hn3⟩ := HV.nilOk
        replace HQ := HQ.on HV.1
        replace HS := HS.on HV.1
        have HP3 := Lib.hid hp3
        clear HV hp3
        go_wp2_with fail
        go_at_call 19
        refine (Turned_any ps A3 c3 HBB.out hn3 _ HP3.out).mono ?_
        rintro e w6 ⟨v, rfl, HV⟩
        obtain ⟨A4, c4, rfl, hp4⟩ := HV.pts
        replace HQ := HQ.on HV.1
        replace HS := HS.on HV.1
        clear HP3
        have HP3 := Lib.hid hp4
        clear HV hp4
        rw [List.length_reverse]
        go_wp2_with fail
        go_at_call 9
        refine (HAR.out _ _ _ HP3.out).mono ?_
        rintro e w7 ⟨rfl, hB⟩
        replace HQ := (HQ.on hB).new #[.int .i64 (arH ps.reverse), .int .u64 (arL ps.reverse)] 26
        replace HS := (HS.on hB).alloc (Obj.cells #[.int .i64 (arH ps.reverse), .int .u64 (arL ps.reverse)] 26)
        clear hB HP3
        go_upto_region 8 with (fail)
        generalize (World.alloc w7 _) = W7 at HQ HS ⊢
        generalize w7.heap.size = g13 at HQ ⊢
        have HOWNL := Lib.hid (fun W (h : Hold w [(g13, #[.int .i64 (arH ps.reverse), .int .u64 (arL ps.reverse)], 26), (g11, #[.int .i64 (arH ps), .int .u64 (arL ps)], 26), (g9, #[.int .i64 (arH ps), .int .u64 (arL ps)], 26), (g5, #[.int .i64 p.1, .int .i64 p.2], 35)] W) => HOWN.out W h.1)
        obtain ⟨wb, hwb⟩ : ∃ x, wc = x := ⟨_, rfl⟩
        rw [hwb] at HS HOW2
        clear hwb
        go_cut [15, 16] (fun s15 s16 wx => s15 = .int .i64 (sdV ps p) ∧ s16 = .int .i64 (sdE ps p) ∧ Hold w [(g13, #[.int .i64 (arH ps.reverse), .int .u64 (arL ps.reverse)], 26), (g11, #[.int .i64 (arH ps), .int .u64 (arL ps)], 26), (g9, #[.int .i64 (arH ps), .int .u64 (arL ps)], 26), (g5, #[.int .i64 p.1, .int .i64 p.2], 35)] wx ∧ Hold wb [] wx)
        case first =>
          go_region_held3 (fun W => W.cell? ⟨g5, 0, none⟩ = some (.int .i64 p.1) ∧ W.cell? ⟨g5, 1, none⟩ = some (.int .i64 p.2)) (first | exact Hold.pt (L := [(g13, #[.int .i64 (arH ps.reverse), .int .u64 (arL ps.reverse)], 26), (g11, #[.int .i64 (arH ps), .int .u64 (arL ps)], 26), (g9, #[.int .i64 (arH ps), .int .u64 (arL ps)], 26), (g5, #[.int .i64 p.1, .int .i64 p.2], 35)]) (by assumption) (.tail _ (.tail _ (.tail _ (.head _)))) | exact Hold.pt (L := [(g13, #[.int .i64 (arH ps.reverse), .int .u64 (arL ps.reverse)], 26), (g11, #[.int .i64 (arH ps), .int .u64 (arL ps)], 26), (g9, #[.int .i64 (arH ps), .int .u64 (arL ps)], 26), (g5, #[.int .i64 p.1, .int .i64 p.2], 35)]) (Hold.drew (by assumption)) (.tail _ (.tail _ (.tail _ (.head _))))) (first
            | (go_at_call 10; (with_reducible refine (HOWNL.out _ (by first | assumption | exact Hold.drew (by assumption))).mono ?_); rintro e w' ⟨v, rfl, HV⟩; obtain ⟨A3, c3, rfl, hp3⟩ := HV.pts; have HQ' := Hold.on (by first | assumption | exact Hold.drew (by assumption) : Hold w [(g13, #[.int .i64 (arH ps.reverse), .int .u64 (arL ps.reverse)], 26), (g11, #[.int .i64 (arH ps), .int .u64 (arL ps)], 26), (g9, #[.int .i64 (arH ps), .int .u64 (arL ps)], 26), (g5, #[.int .i64 p.1, .int .i64 p.2], 35)] _) HV.1; have HS' := Hold.on (by first | assumption | exact Hold.drew (by assumption) : Hold wb [] _) HV.1; have HP3 := Lib.hid hp3; clear hp3 HV)
            | (go_at_call 15; (with_reducible refine (Side_any ps _ _ p HN.out _ HP3.out).mono ?_); rintro e w' ⟨rfl, hB⟩; have HQ' := Hold.on (by first | assumption | exact Hold.drew (by assumption) : Hold w [(g13, #[.int .i64 (arH ps.reverse), .int .u64 (arL ps.reverse)], 26), (g11, #[.int .i64 (arH ps), .int .u64 (arL ps)], 26), (g9, #[.int .i64 (arH ps), .int .u64 (arL ps)], 26), (g5, #[.int .i64 p.1, .int .i64 p.2], 35)] _) hB; have HS' := Hold.on (by first | assumption | exact Hold.drew (by assumption) : Hold wb [] _) hB))
          go_wp2_with fail
          go_meet
          exact ⟨rfl, rfl, HQ', HS'⟩
        case rest =>
          clear HQ HS
          obtain ⟨rfl, rfl, HQ, HS⟩ := hcut
          go_upto_region 9 with (fail)
          go_cut [17, 18] (fun s17 s18 wx => s17 = .int .i64 (sdV ps p) ∧ s18 = .int .i64 (sdE ps p) ∧ Hold w [(g13, #[.int .i64 (arH ps.reverse), .int .u64 (arL ps.reverse)], 26), (g11, #[.int .i64 (arH ps), .int .u64 (arL ps)], 26), (g9, #[.int .i64 (arH ps), .int .u64 (arL ps)], 26), (g5, #[.int .i64 p.1, .int .i64 p.2], 35)] wx ∧ Hold wb [] wx)
          case first =>
            go_region_held3 (fun W => W.cell? ⟨g5, 0, none⟩ = some (.int .i64 p.1) ∧ W.cell? ⟨g5, 1, none⟩ = some (.int .i64 p.2)) (first | exact Hold.pt (L := [(g13, #[.int .i64 (arH ps.reverse), .int .u64 (arL ps.reverse)], 26), (g11, #[.int .i64 (arH ps), .int .u64 (arL ps)], 26), (g9, #[.int .i64 (arH ps), .int .u64 (arL ps)], 26), (g5, #[.int .i64 p.1, .int .i64 p.2], 35)]) (by assumption) (.tail _ (.tail _ (.tail _ (.head _)))) | exact Hold.pt (L := [(g13, #[.int .i64 (arH ps.reverse), .int .u64 (arL ps.reverse)], 26), (g11, #[.int .i64 (arH ps), .int .u64 (arL ps)], 26), (g9, #[.int .i64 (arH ps), .int .u64 (arL ps)], 26), (g5, #[.int .i64 p.1, .int .i64 p.2], 35)]) (Hold.drew (by assumption)) (.tail _ (.tail _ (.tail _ (.head _))))) (first
              | (go_at_call 10; (with_reducible refine (HOW2.out _ (by first | assumption | exact Hold.drew (by assumption))).mono ?_); rintro e w' ⟨v, rfl, HV⟩; obtain ⟨A3, c3, rfl, hp3⟩ := HV.pts; (rw [hlm]); have HQ' := Hold.on (by first | assumption | exact Hold.drew (by assumption) : Hold w [(g13, #[.int .i64 (arH ps.reverse), .int .u64 (arL ps.reverse)], 26), (g11, #[.int .i64 (arH ps), .int .u64 (arL ps)], 26), (g9, #[.int .i64 (arH ps), .int .u64 (arL ps)], 26), (g5, #[.int .i64 p.1, .int .i64 p.2], 35)] _) HV.1; have HS' := Hold.on (by first | assumption | exact Hold.drew (by assumption) : Hold wb [] _) HV.1; have HP3 := Lib.hid hp3; clear hp3 HV)
              | (go_at_call 15; (with_reducible refine (HS2.out _ _ _ HP3.out).mono ?_); rintro e w' ⟨rfl, hB⟩; have HQ' := Hold.on (by first | assumption | exact Hold.drew (by assumption) : Hold w [(g13, #[.int .i64 (arH ps.reverse), .int .u64 (arL ps.reverse)], 26), (g11, #[.int .i64 (arH ps), .int .u64 (arL ps)], 26), (g9, #[.int .i64 (arH ps), .int .u64 (arL ps)], 26), (g5, #[.int .i64 p.1, .int .i64 p.2], 35)] _) hB; have HS' := Hold.on (by first | assumption | exact Hold.drew (by assumption) : Hold wb [] _) hB))
            go_wp2_with fail
            go_meet
            exact ⟨rfl, rfl, HQ', HS'⟩
          case rest =>
            clear HQ HS
            obtain ⟨rfl, rfl, HQ, HS⟩ := hcut
            obtain ⟨f0, f1⟩ := HQ.pt (.tail _ (.head _))
            obtain ⟨f2, f3⟩ := HQ.pt (.tail _ (.tail _ (.head _)))
            go_wp2_with fail
            go_at_call 10
            refine (HOWN.out _ HQ.1).mono ?_
            rintro e w6 ⟨v, rfl, HV⟩
            obtain ⟨A3, c3, rfl, hp3⟩ := HV.pts
            replace HQ := HQ.on HV.1
            replace HS := HS.on HV.1
            have HP3 := Lib.hid hp3
            clear HV hp3
            go_wp2_with fail
            go_at_call 13
            refine (Check_any ps A3 c3 HN.out _ HP3.out).mono ?_
            rintro e w7 ⟨rfl, hB⟩
            replace HQ := HQ.on hB
            replace HS := HS.on hB
            clear hB HP3
            go_wp2_with fail
            go_at_call 10
            refine (HOW2.out _ HS).mono ?_
            rintro e w6 ⟨v, rfl, HV⟩
            obtain ⟨A3, c3, rfl, hp3⟩ := HV.pts
            replace HQ := HQ.on HV.1
            replace HS := HS.on HV.1
            have HP3 := Lib.hid hp3
            clear HV hp3
            rw [hlm]
            go_wp2_with fail
            go_at_call 13
            refine (HC2.out A3 c3 _ HP3.out).mono ?_
            rintro e w7 ⟨rfl, hB⟩
            replace HQ := HQ.on hB
            replace HS := HS.on hB
            clear hB HP3
            clear f0 f1 f2 f3
            by_cases he : arE ps = 0
            · obtain ⟨hl1, hg1⟩ := arE_zero.1 he
              have he2 : arE ps.reverse = 0 := (told_turned ps).1.trans he
              obtain ⟨hl2, hg2⟩ := arE_zero.1 he2
              have wf1 : Wf (arH ps) (arL ps) := by unfold arH arL; rw [if_pos he, if_pos he]; exact wf_of (rim_inR hg1 hl1 (Nat.le_refl _))
              have wf2 : Wf (arH ps.reverse) (arL ps.reverse) := by unfold arH arL; rw [if_pos he2, if_pos he2]; exact wf_of (rim_inR hg2 hl2 (Nat.le_refl _))
              obtain ⟨s1, s2, s3⟩ := turned_sum he
              have hadd := fun W => add_any _ _ _ _ wf1 wf2 W
              rw [s1, s2, s3] at hadd
              have HADD := Lib.hid hadd
              have e0 : (arE ps != 0) = false := by simpa using he
              clear hadd s1 s2 s3 wf1 wf2 he he2 hl1 hg1 hl2 hg2
              obtain ⟨f0, f1⟩ := HQ.pt (.head _)
              obtain ⟨f2, f3⟩ := HQ.pt (.tail _ (.tail _ (.head _)))
              go_wp2_with fail
              go_at_call 22
              refine (HADD.out _).mono ?_
              rintro e w8 ⟨rfl, hB⟩
              replace HQ := (HQ.on hB).new #[.int .i64 0, .int .u64 0] 26
              clear hB f0 f1 f2 f3
              go_upto_region 15 with (fail)
              generalize (World.alloc w8 _) = W8 at HQ ⊢
              generalize w8.heap.size = g19 at HQ ⊢
              obtain ⟨f0, f1⟩ := HQ.pt (.head _)
              go_wp2_with fail
              go_at_call 10
              refine (HOWN.out _ HQ.1).mono ?_
              rintro e w6 ⟨v, rfl, HV⟩
              obtain ⟨A3, c3, rfl, hp3⟩ := HV.pts
              replace HQ := HQ.on HV.1
              have HP3 := Lib.hid hp3
              clear HV hp3 f0 f1
              go_wp2_with fail
              go_at_call 13
              refine (Check_any ps A3 c3 HN.out _ HP3.out).mono ?_
              rintro e w7 ⟨rfl, hB⟩
              replace HQ := HQ.on hB
              clear hB HP3
              by_cases hc : chE ps = 0
              · have c0 : (chE ps != 0) = false := by simpa using hc
                have hr4 := HR3.out hc
                rw [hr4] at HCR
                clear hc
                go_wp2_with fail
                go_at_call 10
                refine (HOWN.out _ HQ.1).mono ?_
                rintro e w6 ⟨v, rfl, HV⟩
                obtain ⟨A3, c3, rfl, hp3, hn3⟩ := HV.nilOk
                replace HQ := HQ.on HV.1
                have HP3 := Lib.hid hp3
                clear HV hp3
                go_wp2_with fail
                go_at_call 19
                refine (Turned_any ps A3 c3 HBB.out hn3 _ HP3.out).mono ?_
                rintro e w6 ⟨v, rfl, HV⟩
                obtain ⟨A4, c4, rfl, hp4⟩ := HV.pts
                replace HQ := HQ.on HV.1
                clear HP3
                have HP3 := Lib.hid hp4
                clear HV hp4
                rw [List.length_reverse]
                go_wp2_with fail
                go_at_call 13
                refine (HCR.out _ _ _ HP3.out).mono ?_
                rintro e w7 ⟨rfl, hB⟩
                have HK := Lib.hid (HQ.on hB).1
                clear HQ hlm hB HP3
                go_wp2
                go_ret
                rw [HG5.out]
                exact ⟨rfl, by have := HK.out; rwa [HG5.out] at this⟩
              · have c0 : (chE ps != 0) = true := by simpa using hc
                have HK := Lib.hid HQ.1
                clear hc HQ hlm
                go_wp2
                go_ret
                rw [HG5.out]
                exact ⟨rfl, by have := HK.out; rwa [HG5.out] at this⟩
            · have e0 : (arE ps != 0) = true := by simpa using he
              have HK := Lib.hid HQ.1
              clear he HQ HS hlm
              go_wp2
              go_ret
              rw [HG5.out]
              exact ⟨rfl, by have := HK.out; rwa [HG5.out] at this⟩
end Go.Proofs.Ytkkdjbmdfpmkpaa.ringBegins
