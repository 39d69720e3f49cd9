/- Layer pager, the laws' own: a program that answers. -/
import Derived.Test.YtfjiceoagenfnaaDoorPRun
set_option maxRecDepth 20000
namespace Go.Proofs.YtfjiceoagenfnaaDoor
open Go.RowKit Go.Lib Go.ChangeMaps Go.MapKept

/-- A new disk, of so many sectors. -/
def newD (n : Nat) : DS := ⟨n, [], 0, 0, false⟩
theorem last_new (n : Nat) : lastF n [] = (0, 0) := (RootIs.new n).last
/-- Open of a new disk. -/
theorem Open_new {W0 W : World} (hE : Env W0) {T : Nat → Prop} {n gd : Nat} (hb : Below W0.heap.size W0 W) (hT : ∀ k, T k → W0.heap.size ≤ k) (h : Dk W T (newD n) gd) (hz : 4 ≤ n) :
    Calls Tryd.prog 8 #[.pointer (some ⟨gd, 0, none⟩)] W fun e w' => ∃ g gs, e = .returned (.tuple #[.pointer (some ⟨g, 0, none⟩), .int .i64 0]) ∧ Rn W0 w' (newD n) ⟨List.replicate n 0, 0, 0⟩ gd g gs := by
  refine (OpenP_any (hE.on hb) h rfl hz (last_new n) (by decide) (by decide)).mono fun e w' ⟨g, gs, h1, h2, h3, h4, h5⟩ => ⟨g, gs, h1, hb.trans (h2.mono hb.size), Nat.le_trans hb.size h3, Nat.le_trans hb.size h4, T, hT, h5⟩
theorem free_new {n : Nat} (h : 4 ≤ n) : ∃ i, 2 ≤ i ∧ i < n ∧ fre ((List.replicate n 0).getD i 0) = true := ⟨2, Nat.le_refl _, by omega, by rw [List.getD_eq_getElem?_getD, List.getElem?_replicate, if_pos (by omega)]; rfl⟩
theorem rep_get (n i : Nat) : (List.replicate n 0).getD i 0 = 0 := by
  rw [List.getD_eq_getElem?_getD, List.getElem?_replicate]; split <;> rfl
theorem bytes_one (W : World) (x : UInt8) : BytesAt (W.alloc (Obj.cells #[.int .u8 (x.toNat : Nat)] 5 (0, 0))) (some ⟨W.heap.size, 0, none⟩) [x].length [x] := bytes_lit rfl
set_option maxHeartbeats 4000000 in
theorem answersP_any {W : World} (hE : Env W) : Calls Tryd.prog 9 #[] W fun e w' => e = .returned (.bool true) ∧ Below W.heap.size W w' := by
  have HE := Lib.hid hE
  have HN := Lib.hid (New_good W 8 (by unfold newOk; omega))
  clear hE
  go_enter Tryd.func9, Tryd.ntmps9
  go_upto_region 5 with (first | (go_at_call 7; refine HN.out.mono ?_; rintro e' w1 ⟨gd, T, rfl, hb, hT, hd⟩; have HO := Lib.hid (Open_new HE.out hb hT hd (by decide)); clear hb hT hd) | (go_at_call 8; refine HO.out.mono ?_; rintro e' w2 ⟨g, gs, rfl, hr⟩; have HR := Lib.hid hr; clear hr))
  have hr := HR.out
  have hb3 := Below.alloc (Below.refl w2.heap.size w2) (Nat.le_refl _) (Obj.cells #[.int .u8 7] 5 (0, 0))
  have h3 := hr.grow hb3
  have hnw := Rn.new HE.out h3 rfl rfl (by decide) (free_new (by decide)) (A := some ⟨w2.heap.size, 0, none⟩) (c := 1) (d := [7]) (bytes_one w2 7) (fun e => by cases e) (by decide)
  have HNW := Lib.hid hnw
  clear hr hb3 h3 hnw
  go_upto_region 7 with (first | (go_at_call 10; refine HNW.out.mono ?_; rintro e' w4 ⟨f, hf2, hf8, hff, rfl, hr4⟩; have HR4 := Lib.hid hr4; have HF := Lib.hid (And.intro hf2 (And.intro hf8 hff)); obtain ⟨T4, hT4, hb4⟩ := hr4.bo; have HRD := Lib.hid (ReadP_page (hr4.env HE.out) hb4 rfl f (isPgB_t hf2 hf8)); clear hf2 hf8 hff hr4 hT4 hb4) | (go_at_call 17; refine HRD.out.mono ?_; rintro e' w5 ⟨v5, rfl, hv5⟩; rw [nowL_push] at hv5 ⊢; rw [if_pos rfl] at hv5 ⊢; rw [(rd_seal (d := [7]) (by decide)).1]; rw [(rd_seal (d := [7]) (by decide)).2] at hv5; have HV5 := Lib.hid hv5; clear hv5))
  obtain ⟨A5, c5, ev, hB5, -⟩ := HV5.out.at
  subst ev
  have hcv : (convert 34 9 (.slice A5 1 c5)).run Tryd.prog w5 = .ok (.string ⟨#[7]⟩) w5 := conv_str (c := c5) hB5
  have hlen : ([7] : List UInt8).length = 1 := rfl
  have h5 := HR4.out.grow HV5.out.1
  obtain ⟨low5, hp5⟩ := h5.pat
  have hrm := roomOf_set (ts := List.replicate 8 0) HF.out.1 (by rw [List.length_replicate]; exact HF.out.2.1) 2
  rw [rep_get, roomOf_new] at hrm
  rw [show fre 0 = true from rfl, if_pos rfl, show fre 2 = false from rfl, if_neg (by decide)] at hrm
  have hroom := Room_any hp5
  rw [show roomOf (List.set (List.replicate 8 0) f 2) = 5 by omega] at hroom
  have HRM := Lib.hid hroom
  have HB := Lib.hid h5.1
  have f2 : (2 : Int) ≤ (f : Int) := by have := HF.out.1; omega
  clear hB5 h5 hp5 hrm hroom
  go_wp2_with (go_at_call 11; refine HRM.out.mono ?_; rintro e' wz ⟨rfl, hwz⟩; have hwz := hwz.symm; subst hwz)
  go_ret
  exact ⟨rfl, HB.out⟩
end Go.Proofs.YtfjiceoagenfnaaDoor
