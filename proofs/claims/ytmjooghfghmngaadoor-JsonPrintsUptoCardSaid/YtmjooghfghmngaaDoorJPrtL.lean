/- The law JsonPrints: the document's Print, and the law's walk. -/
import Derived.Test.YtmjooghfghmngaaDoorJRefP
import Derived.Test.YtmjooghfghmngaaDoorJOwn
namespace Go.Proofs.YtmjooghfghmngaaDoor
open Go.RowKit Go.Shelf Go.Lib

set_option maxHeartbeats 2000000 in
set_option maxRecDepth 100000 in
theorem rPrint_any {w : World} {F : Nat → Prop} {d : Nat} (k : Int) (t : ByteArray) (A1 A2 : Option Addr) (n1 c1 n2 c2 : Nat) (x : JV) (hV : VAt w F d ⟨k, t, .slice A1 n1 c1, .slice A2 n2 c2⟩ x) (hF : ∀ g, F g → g < w.heap.size) (hZ : szJ d x ≤ 2097152) :
    Calls Tryd.prog 11 #[.agg #[.int .i64 k, .string t, .slice A1 n1 c1, .slice A2 n2 c2]] w fun e w' => Shows d x e w' ∧ Below w.heap.size w w' := by
  have hB1 : Below w.heap.size w (w.alloc (Obj.cells #[.int .i64 k, .string t, .slice A1 n1 c1, .slice A2 n2 c2] 25)) := by go_grown
  have h0 := heap_alloc_new w (Obj.cells #[.int .i64 k, .string t, .slice A1 n1 c1, .slice A2 n2 c2] 25)
  have hS := rsound_any 32 (by omega) (w.alloc (Obj.cells #[.int .i64 k, .string t, .slice A1 n1 c1, .slice A2 n2 c2] 25)) F d k t A1 A2 n1 c1 n2 c2 x (hV.keep fun g hg => ⟨hg, hB1.block g (hF g hg)⟩) (fun g hg => Nat.lt_of_lt_of_le (hF g hg) hB1.size) (sz_bt d x hZ)
  rw [show ((32 : Nat) : Int) = 32 from rfl] at hS
  have HX := Lib.hid (fun W (hb : Below (w.alloc (Obj.cells #[.int .i64 k, .string t, .slice A1 n1 c1, .slice A2 n2 c2] 25)).heap.size (w.alloc (Obj.cells #[.int .i64 k, .string t, .slice A1 n1 c1, .slice A2 n2 c2] 25)) W) => (hb.block _ (blk_lt h0)).trans h0)
  have HB1 := Lib.hid hB1
  cases hv : soundJ 32 x with
  | false =>
    rw [hv] at hS
    have HS := Lib.hid hS
    have HSH : Hid (∀ w', Shows d x (.returned (.tuple #[.slice none 0 0, .int .i64 2])) w') := fun w' => .inl ⟨hv, rfl⟩
    clear hB1 h0 hS hv hV hF hZ
    go_enter Tryd.func11, Tryd.ntmps11
    go_wp2_with (go_at_call 19; go_must ((with_reducible refine HS.out.mono ?_); rintro e' w2 ⟨rfl, hb2⟩; have HB2 := Lib.hid (HB1.out.trans (hb2.mono HB1.out.size)); clear hb2))
    go_ret2
    exact ⟨HSH.out _, HB2.out⟩
  | true =>
    rw [hv] at hS
    have HS := Lib.hid hS
    have hpl := print_len d 32 x hv
    have HV := Lib.hid hV
    have HF := Lib.hid hF
    have HBT := Lib.hid (sz_bt d x hZ)
    have HSO := Lib.hid hv
    have HPL : Hid (([] : List UInt8).length + (printJ d x).length ≤ 70368744177664) := Lib.hid (by rw [List.length_nil]; omega)
    clear hB1 h0 hS hv hV hF hZ hpl
    go_enter Tryd.func11, Tryd.ntmps11
    go_wp2_with (go_at_call 19; go_must ((with_reducible refine HS.out.mono ?_); rintro e' w2 ⟨rfl, hb2⟩; have hbk := HX.out _ hb2; have q0 := blk_cell hbk 0; have q1 := blk_cell hbk 1; have q2 := blk_cell hbk 2; have q3 := blk_cell hbk 3; simp only [List.getElem?_toArray, List.getElem?_cons_zero, List.getElem?_cons_succ] at q0 q1 q2 q3; have HB2 := Lib.hid (HB1.out.trans (hb2.mono HB1.out.size)); clear hb2 hbk))
    go_at_call 20
    refine (rprint_any d w2 w2 _ [] F k t A1 A2 n1 c1 n2 c2 x 32 (BRow.none w2) (HV.out.keep fun g hg => ⟨hg, HB2.out.block g (HF.out g hg)⟩) (fun g hg => Nat.lt_of_lt_of_le (HF.out g hg) HB2.out.size) HSO.out HBT.out HPL.out).mono ?_
    rintro e' w3 ⟨v3, rfl, hr3, -⟩
    rw [List.nil_append] at hr3
    obtain ⟨P, p, rfl, hY, hb, hl, hm⟩ := hr3.at
    have HB3 := Lib.hid (HB2.out.trans (hr3.1.mono HB2.out.size))
    have HY := Lib.hid hY
    have Hb := Lib.hid (fun ad e => (hb ad e).2)
    have HL := Lib.hid hl
    have HM := Lib.hid hm
    obtain ⟨pl, hpl⟩ : ∃ pl, pl = (printJ d x).length := ⟨_, rfl⟩
    rw [← hpl]
    have HPE := Lib.hid hpl
    clear hr3 hY hb hl hm hpl q0 q1 q2 q3
    by_cases hbig : 262144 < pl
    · have hb1 : (262144 : Int) < (pl : Int) := by omega
      have hb2 : pl > 262144 := hbig
      have HSH : Hid (∀ w', Shows d x (.returned (.tuple #[.slice none 0 0, .int .i64 12])) w') := fun w' => .inr (.inl ⟨HSO.out, by rw [← HPE.out]; exact hbig, rfl⟩)
      go_wp2_with fail
      go_ret2
      exact ⟨HSH.out _, HB3.out⟩
    · have hb1 : ¬ (262144 : Int) < (pl : Int) := by omega
      have HSH : Hid (Shows d x (.returned (.tuple #[.slice P pl p, .int .i64 0])) w3) := Lib.hid (.inr (.inr ⟨HSO.out, by rw [← HPE.out]; omega, P, p, by rw [HPE.out], HY.out, Hb.out, HL.out, HM.out⟩))
      go_wp2_with fail
      go_ret2
      exact ⟨HSH.out, HB3.out⟩
theorem conv_none (w : World) : (convert 26 9 (.slice none 0 0)).run Tryd.prog w = .ok (.string ⟨#[]⟩) w := conv_str (s := []) (c := 0) (fun h => absurd h (by simp))
set_option maxHeartbeats 4000000 in
set_option maxRecDepth 100000 in
theorem prints_walk {W : World} (hE : Env W) {d : Nat} {k : Int} {t : ByteArray} {A1 A2 : Option Addr} {n1 c1 n2 c2 : Nat} {x : JV} (hV : VAt W (fun g => g < W.heap.size) d ⟨k, t, .slice A1 n1 c1, .slice A2 n2 c2⟩ x) (hT : TM d x) (hR : RM d x) (hZ : szJ d x ≤ 2097152) :
    Calls Tryd.prog 3 #[.agg #[.int .i64 k, .string t, .slice A1 n1 c1, .slice A2 n2 c2]] W fun e w' => e = .returned (.bool true) ∧ Below W.heap.size W w' := by
  have hb1 : Below W.heap.size W (W.alloc (Obj.cells #[.int .i64 k, .string t, .slice A1 n1 c1, .slice A2 n2 c2] 25)) := by go_grown
  have h0 := heap_alloc_new W (Obj.cells #[.int .i64 k, .string t, .slice A1 n1 c1, .slice A2 n2 c2] 25)
  have hV1 := hV.keep (W' := W.alloc (Obj.cells #[.int .i64 k, .string t, .slice A1 n1 c1, .slice A2 n2 c2] 25)) (F' := fun g => g < W.heap.size) fun g hg => ⟨hg, hb1.block g hg⟩
  have HO := Lib.hid (own_any d (W.alloc (Obj.cells #[.int .i64 k, .string t, .slice A1 n1 c1, .slice A2 n2 c2] 25)) _ k t A1 A2 n1 c1 n2 c2 x hV1 (fun g hg => Nat.lt_of_lt_of_le hg hb1.size) hR)
  have HA := Lib.hid (fun W' (hb : Below W.heap.size W W') => answers_any (hE.on hb))
  have HE := Lib.hid hE
  have HV := Lib.hid hV
  have HT := Lib.hid hT
  have HZ := Lib.hid hZ
  have HB1 := Lib.hid hb1
  have HX1 := Lib.hid h0
  clear hb1 h0 hV1 hE hV hT hR hZ
  go_enter Tryd.func3, Tryd.ntmps3
  go_wp2_with (go_at_call 10; go_must ((with_reducible refine HO.out.mono ?_); rintro e' w2 ⟨B1, b1, B2, b2, rfl, hb2, hv2⟩; have HB2 := Lib.hid (HB1.out.trans (hb2.mono HB1.out.size)); have HX2 := Lib.hid ((hb2.block _ (blk_lt HX1.out)).trans HX1.out); have HPR := Lib.hid (Print_any k t B1 B2 n1 b1 n2 b2 x hv2 (HE.out.on HB2.out) (fun g hg => hg.2) HT.out); clear hb2 hv2))
  go_at_call 9
  refine HPR.out.mono ?_
  rintro e' w3 ⟨hSH, hB3⟩
  have HB3 := Lib.hid (HB2.out.trans (hB3.mono HB2.out.size))
  have HX3 := Lib.hid ((hB3.block _ (blk_lt HX2.out)).trans HX2.out)
  have q0 := blk_cell HX3.out 0
  have q1 := blk_cell HX3.out 1
  have q2 := blk_cell HX3.out 2
  have q3 := blk_cell HX3.out 3
  simp only [List.getElem?_toArray, List.getElem?_cons_zero, List.getElem?_cons_succ] at q0 q1 q2 q3
  have HRP := Lib.hid (rPrint_any k t A1 A2 n1 c1 n2 c2 x (HV.out.keep (F' := fun g => g < W.heap.size) fun g hg => ⟨hg, HB3.out.block g hg⟩) (fun g hg => Nat.lt_of_lt_of_le hg HB3.out.size) HZ.out)
  clear hB3
  rcases hSH with ⟨hs, rfl⟩ | ⟨hs, hl, rfl⟩ | ⟨hs, hl, P, p, rfl, hY3, -, -, -⟩
  · go_wp2_with fail
    go_at_call 11
    refine HRP.out.mono ?_
    rintro e' w4 ⟨⟨-, rfl⟩ | ⟨hs', -⟩ | ⟨hs', -⟩, hB4⟩
    · have HB4 := Lib.hid (HB3.out.trans (hB4.mono HB3.out.size))
      clear hB4 hs q0 q1 q2 q3
      go_wp2_with (go_at_call 12; go_must ((with_reducible refine (HA.out _ HB4.out).mono ?_); rintro e' w5 ⟨rfl, hb5⟩; have HB5 := Lib.hid (HB4.out.trans (hb5.mono HB4.out.size)); have hcn := conv_none w5; clear hb5))
      go_ret
      exact ⟨rfl, HB5.out⟩
    · rw [hs] at hs'; cases hs'
    · rw [hs] at hs'; cases hs'
  · go_wp2_with fail
    go_at_call 11
    refine HRP.out.mono ?_
    rintro e' w4 ⟨⟨hs', -⟩ | ⟨-, -, rfl⟩ | ⟨-, hl', -⟩, hB4⟩
    · rw [hs] at hs'; cases hs'
    · have HB4 := Lib.hid (HB3.out.trans (hB4.mono HB3.out.size))
      clear hB4 hs hl q0 q1 q2 q3
      go_wp2_with (go_at_call 12; go_must ((with_reducible refine (HA.out _ HB4.out).mono ?_); rintro e' w5 ⟨rfl, hb5⟩; have HB5 := Lib.hid (HB4.out.trans (hb5.mono HB4.out.size)); have hcn := conv_none w5; clear hb5))
      go_ret
      exact ⟨rfl, HB5.out⟩
    · omega
  · have HY3 := Lib.hid hY3
    obtain ⟨tx, htx⟩ : ∃ tx : ByteArray, tx = ⟨(printJ d x).toArray⟩ := ⟨_, rfl⟩
    have HTX := Lib.hid htx
    obtain ⟨pl, hpl⟩ : ∃ pl, pl = (printJ d x).length := ⟨_, rfl⟩
    have HPL := Lib.hid hpl
    rw [← hpl]
    clear hY3 htx hpl
    go_wp2_with fail
    go_at_call 11
    refine HRP.out.mono ?_
    rintro e' w4 ⟨⟨hs', -⟩ | ⟨-, hl', -⟩ | ⟨-, -, Q, q, rfl, hY4, -, -, -⟩, hB4⟩
    · rw [hs] at hs'; cases hs'
    · omega
    · have HB4 := Lib.hid (HB3.out.trans (hB4.mono HB3.out.size))
      have HG4 := Lib.hid hB4
      have HY4 := Lib.hid hY4
      rw [← HPL.out]
      clear hB4 hs hl hY4 q0 q1 q2 q3
      go_wp2_with (go_at_call 12; go_must ((with_reducible refine (HA.out _ HB4.out).mono ?_); rintro e' w5 ⟨rfl, hb5⟩; have HB5 := Lib.hid (HB4.out.trans (hb5.mono HB4.out.size)); have hc3 : (convert 26 9 (.slice P pl p)).run Tryd.prog w5 = .ok (.string tx) w5 := (by rw [HPL.out, HTX.out]; exact conv_str (bytes_on HY3.out (grew_of (HG4.out.trans (hb5.mono HG4.out.size)) none) (fun _ _ => (by simp)))); have hc4 : (convert 26 9 (.slice Q pl q)).run Tryd.prog w5 = .ok (.string tx) w5 := (by rw [HPL.out, HTX.out]; exact conv_str (bytes_on HY4.out (grew_of hb5 none) (fun _ _ => (by simp)))); clear hb5))
      go_ret
      exact ⟨rfl, HB5.out⟩
end Go.Proofs.YtmjooghfghmngaaDoor
