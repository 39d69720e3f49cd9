/- The program's numbered and ringsOf. -/
import Derived.Test.YtbcmnhbpomjinaaGreatPgJ
import Derived.Test.YtbcmnhbpomjinaaGreatRefFine
namespace Go.Proofs.YtbcmnhbpomjinaaGreat
open Go.RowKit

def NumAt (l : List PV) (k : Nat) : Prop := ∀ x, l[k]? = some x → lastI l k < x.par.id ∧ idB x.par.id = true ∧ OwnOk x.par.own
def NumP (l : List PV) : Prop := 1 ≤ l.length ∧ l.length ≤ 64 ∧ ∀ k, k < l.length → NumAt l k
noncomputable def numB (l : List PV) : Bool := @decide (NumP l) (Classical.propDecidable _)
theorem numB_iff {l : List PV} : numB l = true ↔ NumP l := by unfold numB; exact @decide_eq_true_iff _ (Classical.propDecidable _)
theorem numB_not {l : List PV} : numB l = false ↔ ¬ NumP l := by rw [← numB_iff, Bool.not_eq_true]
set_option maxRecDepth 100000 in
set_option maxHeartbeats 1000000 in
theorem numbered_any (l : List PV) (Ap : Option Addr) (cp : Nat) (hn : l.length ≤ 1000000) (hown : ∀ x ∈ l, x.par.own.size ≤ maxLen) (w : World) (hr : Prs w Ap l) :
    Calls Tryz.prog 83 #[.slice Ap l.length cp] w fun e' w' => e' = .returned (.bool (numB l)) ∧ Below w.heap.size w w' := by
  have HR := Lib.hid (fun W (h : Below w.heap.size w W) => hr.on h)
  have HO := Lib.hid hown
  clear hr hown
  by_cases h1 : l.length < 1
  · have HF : Hid (numB l = false) := numB_not.2 fun h => by have := h.1; omega
    have e1 : (l.length : Int) < 1 := by omega
    clear h1
    go_enter Tryz.func83, Tryz.ntmps83
    go_wp2
    go_ret
    exact ⟨by rw [HF.out]; rfl, Below.refl _ _⟩
  · by_cases h2 : 64 < l.length
    · have HF : Hid (numB l = false) := numB_not.2 fun h => by have := h.2.1; omega
      have e1 : ¬ (l.length : Int) < 1 := by omega
      have e2 : (64 : Int) < (l.length : Int) := by omega
      clear h1 h2
      go_enter Tryz.func83, Tryz.ntmps83
      go_wp2
      go_ret
      exact ⟨by rw [HF.out]; rfl, Below.refl _ _⟩
    · have e1 : ¬ (l.length : Int) < 1 := by omega
      have e2 : ¬ (64 : Int) < (l.length : Int) := by omega
      have H12 : Hid (1 ≤ l.length ∧ l.length ≤ 64) := ⟨by omega, by omega⟩
      clear h1 h2
      go_enter Tryz.func83, Tryz.ntmps83
      go_wp2_with fail
      clear e1 e2
      go_loopg [3, 16] l.length (fun g la i wr => ∃ k : Nat, k ≤ l.length ∧ g = l.length - k ∧ i = .int .i64 k ∧ la = .int .i64 (lastI l k) ∧ (∀ j, j < k → NumAt l j) ∧ Below w.heap.size w wr)
      case atStart => exact ⟨0, Nat.zero_le _, rfl, rfl, rfl, fun j hj => absurd hj (by omega), Below.refl _ _⟩
      case round =>
        obtain ⟨k, hk, hgk, rfl, rfl, hno, HB⟩ := hrel
        have HGK := Lib.hid hgk
        have HNO := Lib.hid hno
        clear hgk hno
        by_cases hlt : k < l.length
        · have hw := HR.out _ HB
          obtain ⟨ad, rfl, -, d0, d1, d2⟩ := hw.at hlt
          have hx : l[k]? = some l[k] := List.getElem?_eq_getElem hlt
          have HS2 := Lib.hid (lastI_succ hx)
          have HOK := Lib.hid (fun W => owner_any l[k].par.own (HO.out _ (List.getElem_mem hlt)) W)
          have HID := Lib.hid (fun W => id_any l[k].par.id W)
          have HBAD : Hid (¬ (lastI l k < l[k].par.id ∧ idB l[k].par.id = true ∧ OwnOk l[k].par.own) → numB l = false) := fun h => numB_not.2 fun hf => h (hf.2.2 k hlt _ hx)
          have HNX : Hid (lastI l k < l[k].par.id ∧ idB l[k].par.id = true ∧ OwnOk l[k].par.own → ∀ j, j < k + 1 → NumAt l j) := fun h j hj => by
            by_cases e : j = k
            · subst e
              intro y hy
              obtain rfl := Option.some.inj (hx.symm.trans hy)
              exact h
            · exact HNO.out j (by omega)
          have b0 : (0 : Int) ≤ (k : Int) := by omega
          have b1 : (k : Int) < (l.length : Int) := by omega
          clear hw hx
          generalize l[k].par = x at *
          generalize l[k].A = Ak at *
          generalize l[k].cap = ck at *
          obtain ⟨la, hla⟩ : ∃ n, lastI l k = n := ⟨_, rfl⟩
          rw [hla] at HBAD HNX
          have HLA := Lib.hid hla
          rw [hla]
          clear hla
          go_upto_region 7 with (fail)
          have HQ := (Hold.refl wr).new #[.int .i64 x.id, .slice Ak x.ring.length ck, .string x.own] 34
          have HB2 := HB.alloc HB.size (.cells #[.int .i64 x.id, .slice Ak x.ring.length ck, .string x.own] 34 (0, 0))
          clear d0 d1 d2 HB
          generalize (World.alloc _ _) = W2 at HQ HB2 ⊢
          generalize wr.heap.size = g5 at HQ ⊢
          obtain ⟨c0, c1, c2⟩ : W2.cell? ⟨g5, 0, none⟩ = some (.int .i64 x.id) ∧ W2.cell? ⟨g5, 1, none⟩ = some (.slice Ak x.ring.length ck) ∧ W2.cell? ⟨g5, 2, none⟩ = some (.string x.own) := ⟨HQ.cell (.head _) 0, HQ.cell (.head _) 1, HQ.cell (.head _) 2⟩
          have HQX := Lib.hid HQ
          have HBX := Lib.hid HB2
          clear HQ HB2
          by_cases h1 : x.id ≤ la
          · have HF : Hid (numB l = false) := HBAD.out fun h => by omega
            clear HBAD HNX HNO
            go_wp2
            go_ret
            exact ⟨by rw [HF.out]; rfl, HBX.out⟩
          · cases h2 : idB x.id
            · have HF : Hid (numB l = false) := HBAD.out fun h => by rw [h2] at h; cases h.2.1
              rw [h2] at HID
              clear HBAD HNX HNO h2
              go_wp2_with (go_at_call 81; go_must (refine (HID.out _).mono ?_; rintro e' w' ⟨rfl, rfl⟩))
              go_ret
              exact ⟨by rw [HF.out]; rfl, HBX.out⟩
            · rw [h2] at HID
              cases h3 : owB x.own
              · have HF : Hid (numB l = false) := HBAD.out fun h => owB_not.1 h3 h.2.2
                rw [h3] at HOK
                clear HBAD HNX HNO h2 h3
                go_wp2_with (first
                  | (go_at_call 81; go_must (refine (HID.out _).mono ?_; rintro e' w' ⟨rfl, rfl⟩))
                  | (go_at_call 82; go_must (refine (HOK.out _).mono ?_; rintro e' W3 ⟨rfl, hB⟩; have hq3 := HQX.out.on hB; have c3 := hq3.cell (.head _) 0; simp only [List.getElem?_toArray, List.getElem?_cons_zero] at c3; have HB3 := Lib.hid (Below.trans HBX.out (hB.mono HBX.out.size)); clear hB hq3)))
                go_ret
                exact ⟨by rw [HF.out]; rfl, HB3.out⟩
              · have HN := Lib.hid (HNX.out ⟨by omega, h2, owB_iff.1 h3⟩)
                rw [h3] at HOK
                clear HBAD HNX HNO h2 h3
                go_wp2_with (first
                  | (go_at_call 81; go_must (refine (HID.out _).mono ?_; rintro e' w' ⟨rfl, rfl⟩))
                  | (go_at_call 82; go_must (refine (HOK.out _).mono ?_; rintro e' W3 ⟨rfl, hB⟩; have hq3 := HQX.out.on hB; have c3 := hq3.cell (.head _) 0; simp only [List.getElem?_toArray, List.getElem?_cons_zero] at c3; have HB3 := Lib.hid (Below.trans HBX.out (hB.mono HBX.out.size)); clear hB hq3)))
                go_roundg (l.length - (k + 1))
                case measure => have := HGK.out; omega
                case rel => exact ⟨k + 1, by omega, rfl, by go_num, by rw [HS2.out], HN.out, HB3.out⟩
        · obtain rfl : k = l.length := by omega
          have HF : Hid (numB l = true) := numB_iff.2 ⟨H12.out.1, H12.out.2, HNO.out⟩
          have HB9 := Lib.hid HB
          clear HB HNO
          go_wp2
          go_ret
          exact ⟨by rw [HF.out]; rfl, HB9.out⟩

def toRV (x : PV) : RV := ⟨x.par.ring, x.A, x.cap⟩
def allRV (o : List (Int × Int)) (Ao : Option Addr) (co : Nat) (l : List PV) : List RV := ⟨o, Ao, co⟩ :: l.map toRV
theorem rgs_all (o : List (Int × Int)) (Ao : Option Addr) (co : Nat) (l : List PV) : rgs (allRV o Ao co l) = o :: rings l := by
  unfold rgs allRV rings
  rw [List.map_cons, List.map_map]; rfl
set_option maxRecDepth 100000 in
set_option maxHeartbeats 1000000 in
theorem rings_any (o : List (Int × Int)) (Ao : Option Addr) (co : Nat) (l : List PV) (Ap : Option Addr) (cp : Nat) (hl : l.length ≤ 1000000) (w : World) (hr : Prs w Ap l) :
    Calls Tryz.prog 48 #[.agg #[.slice Ao o.length co, .slice Ap l.length cp]] w fun e' w' => ∃ v, e' = .returned v ∧ RowI w 23 1 encRV v (allRV o Ao co l) w' := by
  have HR := Lib.hid (fun W (h : Below w.heap.size w W) => hr.on h)
  have HQ := ((Hold.refl w).new #[.slice Ao o.length co, .slice Ap l.length cp] 26).new' #[.slice Ao o.length co] 23 (n := w.heap.size + 1) (by simp)
  have HV0 : RowI w 23 1 encRV (.slice (some ⟨w.heap.size + 1, 0, none⟩) 1 1) (allRV o Ao co (l.take 0)) ((w.alloc (Obj.cells #[.slice Ao o.length co, .slice Ap l.length cp] 26 (0, 0))).alloc (Obj.cells #[.slice Ao o.length co] 23 (0, 0))) :=
    ⟨HQ.1, rfl, .inr ⟨w.heap.size + 1, 1, _, rfl, by omega, (HQ.2.1 _ (.head _)).1, (show 1 ≤ 1 by decide), by decide, rfl, rfl⟩⟩
  clear hr
  go_enter Tryz.func48, Tryz.ntmps48
  go_upto_region 2 with (fail)
  have HQ1 := HQ.tail
  clear HQ
  generalize (World.alloc (World.alloc w _) _) = W1 at HQ1 HV0 ⊢
  generalize w.heap.size + 1 = g1 at HV0 ⊢
  obtain ⟨g0, hg0⟩ : ∃ g, w.heap.size = g := ⟨_, rfl⟩
  rw [hg0] at HQ1 ⊢
  have HG0 := Lib.hid hg0
  clear hg0
  obtain ⟨c0, c1⟩ := HQ1.pt (.head _)
  have HQX := Lib.hid HQ1
  have HVX := Lib.hid HV0
  clear HQ1 HV0
  go_wp2_with fail
  go_loopg [3, 12] l.length (fun g v i wr => ∃ k : Nat, k ≤ l.length ∧ g = l.length - k ∧ i = .int .i64 k ∧ RowI w 23 1 encRV v (allRV o Ao co (l.take k)) wr)
  case atStart => exact ⟨0, Nat.zero_le _, rfl, rfl, HVX.out⟩
  case round =>
    clear c0 c1
    obtain ⟨k, hk, hgk, rfl, HV⟩ := hrel
    have HGK := Lib.hid hgk
    clear hgk
    by_cases hlt : k < l.length
    · have hw := HR.out _ HV.1
      obtain ⟨ad, rfl, -, d0, d1, d2⟩ := hw.at hlt
      have HT : Hid (allRV o Ao co (l.take (k + 1)) = allRV o Ao co (l.take k) ++ [toRV l[k]]) := by
        unfold Hid allRV
        rw [List.take_succ_eq_append_getElem hlt, List.map_append]; rfl
      have HLN : Hid ((allRV o Ao co (l.take k)).length ≤ 1000001) := by
        unfold Hid allRV
        rw [List.length_cons, List.length_map, List.length_take]; omega
      have HEV : Hid (encRV (toRV l[k]) = [.slice l[k].A l[k].par.ring.length l[k].cap]) := rfl
      have b0 : (0 : Int) ≤ (k : Int) := by omega
      have b1 : (k : Int) < (l.length : Int) := by omega
      clear hw
      generalize allRV o Ao co (l.take k) = rs at *
      generalize toRV l[k] = rv at *
      generalize l[k].par = x at *
      generalize l[k].A = Ak at *
      generalize l[k].cap = ck at *
      go_upto_region 5 with (fail)
      have HQ := (Hold.refl wr).new #[.int .i64 x.id, .slice Ak x.ring.length ck, .string x.own] 34
      have HV1 := HV.alloc (.cells #[.int .i64 x.id, .slice Ak x.ring.length ck, .string x.own] 34 (0, 0))
      clear HV d0 d1 d2
      generalize (World.alloc _ _) = W2 at HQ HV1 ⊢
      generalize wr.heap.size = gx at HQ ⊢
      obtain ⟨c0, c1, c2⟩ : W2.cell? ⟨gx, 0, none⟩ = some (.int .i64 x.id) ∧ W2.cell? ⟨gx, 1, none⟩ = some (.slice Ak x.ring.length ck) ∧ W2.cell? ⟨gx, 2, none⟩ = some (.string x.own) := ⟨HQ.cell (.head _) 0, HQ.cell (.head _) 1, HQ.cell (.head _) 2⟩
      have HV2 := Lib.hid HV1
      clear HV1 HQ
      go_wp2_with (at_builtin; go_must (refine append_item kindRV Tryz.underlying79 HV2.out rv 23 (cs := #[.slice Ak x.ring.length ck]) (by rw [HEV.out]) (by have := HLN.out; unfold maxLen; omega) (by have := HLN.out; omega) rfl _ _ rfl rfl 1 rfl ?_; intro v9 w9 HR9))
      go_roundg (l.length - (k + 1))
      case measure => have := HGK.out; omega
      case rel => exact ⟨k + 1, by omega, rfl, by go_num, by rw [HT.out]; exact HR9⟩
    · obtain rfl : k = l.length := by omega
      rw [List.take_length] at HV
      have HV9 := Lib.hid HV
      clear HV
      go_wp2
      go_ret
      exact ⟨_, rfl, HV9.out⟩
end Go.Proofs.YtbcmnhbpomjinaaGreat
