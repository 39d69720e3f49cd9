/- The walk of PlanTiles. -/
import Derived.Test.YtbcmnhbpomjinaaGreatTileM
namespace Go.Proofs.YtbcmnhbpomjinaaGreat
open Go.RowKit
set_option maxRecDepth 100000 in
set_option maxHeartbeats 1000000 in
theorem tiles_walk (o : List (Int × Int)) (Ao : Option Addr) (co : Nat) (l : List PV) (Ap : Option Addr) (cp : Nat) (x y m : Int) (hl : l.length ≤ 8796093022208) (hown : ∀ x ∈ l, x.par.own.size ≤ maxLen) (w : World) (h : PlanAt w o Ao co l Ap cp) :
    Calls Tryz.prog 5 #[.agg #[.slice Ao o.length co, .slice Ap l.length cp], .int .i64 x, .int .i64 y, .int .i64 m] w fun e w' => e = .returned (.bool true) ∧ Below w.heap.size w w' := by
  have hlo : o.length ≤ 8796093022208 := by have := h.room; omega
  have HAN := Lib.hid (fun W => plan_answers W)
  have HSM := Lib.hid (fun W (hb : Below w.heap.size w W) => small_any o Ao co l Ap cp hlo W (h.prs.on hb))
  have HOW := Lib.hid (fun W (hb : Below w.heap.size w W) (hll : l.length ≤ 1000000) => Own_any o Ao co l Ap cp hll W (h.on hb))
  have HCV := Lib.hid (fun W A1 c1 l' Ap1 cp1 (hll : l.length ≤ 1000000) (hm : l'.map PV.par = l.map PV.par) (hp : PlanAt W o A1 c1 l' Ap1 cp1) => owned_cover x y m hll hlo hown hm hp)
  have HRC := Lib.hid (fun W (hb : Below w.heap.size w W) (hll : l.length ≤ 1000000) (h4 : o.length ≤ 400) => ref_chk o Ao co l Ap cp hll (by omega) hown W (h.prs.on hb) (h.out.on hb))
  have HRV := Lib.hid (fun W (hb : Below w.heap.size w W) (h4 : o.length ≤ 400) (hc : CheckP o l) (hs : SpOk x y m) => ref_cover o Ao co x y m hs (by unfold maxLen; omega) (gdL_iff.2 (normP_small hc.2.1).2.2) W (h.out.on hb))
  have HQ := (Hold.refl w).new #[.slice Ao o.length co, .slice Ap l.length cp] 26
  clear h hown hlo
  go_enter Tryz.func5, Tryz.ntmps5
  go_upto_region 1 with (fail)
  generalize (World.alloc _ _) = W1 at HQ ⊢
  generalize w.heap.size = g0 at HQ ⊢
  have HQX := Lib.hid HQ
  clear HQ
  go_wp2_with fail
  go_at_call 14
  refine (HAN.out _).mono ?_
  rintro e W2 ⟨rfl, hB⟩
  have hq := HQX.out.on hB
  have HQ2 := Lib.hid hq
  obtain ⟨c0, c1⟩ := hq.pt (.head _)
  clear hB hq
  go_wp2_with fail
  go_at_call 15
  refine (HSM.out _ HQ2.out.1).mono ?_
  rintro e W3 ⟨b, rfl, hsm, hB⟩
  have hq := HQ2.out.on hB
  have HQ3 := Lib.hid hq
  have HS := Lib.hid hsm
  clear hB c0 c1 hsm
  obtain ⟨c0, c1⟩ := hq.pt (.head _)
  clear hq
  cases b
  · go_wp2_with (go_at_call 14; go_must (refine (HAN.out _).mono ?_; rintro e' W4 ⟨rfl, hB⟩; have HB4 := Lib.hid (HQ3.out.on hB).1; clear hB))
    go_ret
    exact ⟨rfl, HB4.out⟩
  · obtain ⟨s1, s2, s3⟩ := HS.out rfl
    have HL1 : Hid (l.length ≤ 1000000) := by unfold Hid; omega
    have HO4 := Lib.hid s1
    clear s1 s2 s3 HS
    go_wp2_with fail
    go_at_call 17
    refine (HOW.out _ HQ3.out.1 HL1.out).mono ?_
    rintro e W4 ⟨hB, A1, cA, l', Ap1, cp1, rfl, hm, hp⟩
    have hq := HQ3.out.on hB
    have HQ4 := Lib.hid hq
    have HC4 := Lib.hid (HCV.out W4 A1 cA l' Ap1 cp1 HL1.out hm hp)
    clear hB hm hp c0 c1 hq
    go_wp2_with fail
    go_at_call 27
    refine HC4.out.mono ?_
    rintro e W5 ⟨hB, ⟨hne, rfl⟩ | ⟨hz, A5, c5, A6, c6, rfl, -, -⟩⟩
    · have HB8 := Lib.hid (HQ4.out.on hB).1
      have e1 : (cvE o l x y m == 0) = false := by simpa using hne
      have e2 : (cvE o l x y m != 0) = true := by simpa using hne
      clear hB hne HC4
      generalize cvE o l x y m = ee at *
      go_wp2
      go_ret
      exact ⟨rfl, HB8.out⟩
    · have hq := HQ4.out.on hB
      have HQ5 := Lib.hid hq
      obtain ⟨c0, c1⟩ := hq.pt (.head _)
      obtain ⟨hcp, hsp⟩ := cvE_zero hz
      have HT := Lib.hid (tile_spot hcp hsp)
      have HRX := Lib.hid (fun W hb => HRC.out W hb HL1.out HO4.out)
      have HRY := Lib.hid (fun W hb => HRV.out W hb HO4.out hcp hsp)
      rw [chkB_iff.2 hcp] at HRX
      have hsv := side_vals (mulR m o) (x, y)
      clear hB hq HC4 hcp hsp hz HRC HRV
      generalize (idsAt l x y m 1).length = n1 at *
      generalize (idsAt l x y m 0).length = n0 at *
      generalize side (mulR m o) (x, y) = sv at *
      go_wp2_with fail
      go_at_call 20
      refine (HRX.out _ HQ5.out.1).mono ?_
      rintro e' W6 ⟨rfl, hB⟩
      have hq := HQ5.out.on hB
      have HQ6 := Lib.hid hq
      clear c0 c1 hB HRX
      obtain ⟨c0, c1⟩ := hq.pt (.head _)
      clear hq
      go_wp2_with fail
      go_at_call 28
      refine (HRY.out _ HQ6.out.1).mono ?_
      rintro e' W7 ⟨rfl, hB⟩
      have HB8 := Lib.hid (HQ6.out.on hB).1
      clear hB c0 c1 HRY
      rcases hsv with rfl | rfl | rfl
      · rcases HT.out.1 rfl with ⟨rfl, rfl⟩ | ⟨rfl, h2⟩
        · clear HT
          go_wp2
          go_ret
          exact ⟨rfl, HB8.out⟩
        · have h3 : (2 : Int) ≤ (n0 : Int) := by omega
          clear HT h2
          go_wp2
          go_ret
          exact ⟨rfl, HB8.out⟩
      · obtain ⟨rfl, h2⟩ := HT.out.2.1 rfl
        have h3 : (1 : Int) ≤ (n0 : Int) := by omega
        clear HT h2
        go_wp2
        go_ret
        exact ⟨rfl, HB8.out⟩
      · obtain ⟨rfl, rfl⟩ := HT.out.2.2 rfl
        clear HT
        go_wp2
        go_ret
        exact ⟨rfl, HB8.out⟩
end Go.Proofs.YtbcmnhbpomjinaaGreat
