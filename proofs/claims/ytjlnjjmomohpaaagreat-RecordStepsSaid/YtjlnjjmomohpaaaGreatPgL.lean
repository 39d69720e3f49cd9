/- The program's loose and apart: do stretches meet but at ends of both? -/
import Derived.Test.YtjlnjjmomohpaaaGreatPgJ
import Derived.Test.YtjlnjjmomohpaaaGreatGeoAns
import Derived.Test.YtjlnjjmomohpaaaGreatRefFine
namespace Go.Proofs.YtjlnjjmomohpaaaGreat
open Go.RowKit

def mvE (a b : EdT) : Int := mv a.1 a.2 b.1 b.2
def looseB (a b : EdT) : Bool := decide (mvE a b = 0) || (decide (mvE a b = 1) && joinB a b)
set_option maxRecDepth 100000 in
set_option maxHeartbeats 1000000 in
theorem loose_any (a b : EdT) (w : World) : Calls Tryz.prog 136 #[.agg #[.int .i64 a.1.1, .int .i64 a.1.2, .int .i64 a.2.1, .int .i64 a.2.2], .agg #[.int .i64 b.1.1, .int .i64 b.1.2, .int .i64 b.2.1, .int .i64 b.2.2]] w fun e' w' => e' = .returned (.bool (looseB a b)) ∧ Below w.heap.size w w' := by
 have HQ := ((Hold.refl w).new #[.int .i64 a.1.1, .int .i64 a.1.2, .int .i64 a.2.1, .int .i64 a.2.2] 76).new' #[.int .i64 b.1.1, .int .i64 b.1.2, .int .i64 b.2.1, .int .i64 b.2.2] 76 (n := w.heap.size + 1) (by simp)
 have HM := Lib.hid (fun W => Meet_any a.1 a.2 b.1 b.2 W)
 have HJ := Lib.hid (fun W => joined_any a b W)
 obtain ⟨m, hm⟩ : ∃ m, mv a.1 a.2 b.1 b.2 = m := ⟨_, rfl⟩
 have hme : mvE a b = m := hm
 rw [hm] at HM
 go_enter Tryz.func136, Tryz.ntmps136
 go_upto_region 1 with (fail)
 generalize (World.alloc _ _) = W1 at HQ ⊢
 generalize w.heap.size + 1 = g1 at HQ ⊢
 obtain ⟨g0, hg0⟩ : ∃ g, w.heap.size = g := ⟨_, rfl⟩
 have HG := Lib.hid hg0
 rw [hg0] at HQ ⊢
 clear hg0 hm
 obtain ⟨c0, c1, c2, c3⟩ := HQ.q4 (List.mem_cons_of_mem _ List.mem_cons_self)
 obtain ⟨k0, k1, k2, k3⟩ := HQ.q4 List.mem_cons_self
 have HQX := Lib.hid HQ
 clear HQ
 by_cases h0 : m = 0
 ·have HL : Hid (looseB a b = true) := by unfold Hid looseB; rw [hme, decide_eq_true h0]; rfl
  have e0 : (m == 0) = true := by simpa using h0
  clear hme h0
  go_wp2_with (go_at_call 168; go_must (refine (HM.out _).mono ?_; rintro e' W3 ⟨rfl, hB⟩; have HB3 := Lib.hid (HQX.out.on hB).1; clear hB))
  go_ret
  exact ⟨by rw [HL.out]; rfl, HB3.out⟩
 ·by_cases h1 : m = 1
  ·have HL : Hid (looseB a b = joinB a b) := by unfold Hid looseB; rw [hme, decide_eq_false h0, decide_eq_true h1]; rfl
   have e0 : (m == 0) = false := by simpa using h0
   have e1 : (m == 1) = true := by simpa using h1
   clear hme h0 h1
   go_wp2_with (first
    |(go_at_call 168; go_must (refine (HM.out _).mono ?_; rintro e' W3 ⟨rfl, hB⟩; have hq3 := HQX.out.on hB; obtain ⟨d0, d1, d2, d3⟩ := hq3.q4 (List.mem_cons_of_mem _ List.mem_cons_self); obtain ⟨f0, f1, f2, f3⟩ := hq3.q4 List.mem_cons_self; have HQ3 := Lib.hid hq3; clear hB hq3))
    |(go_at_call 169; go_must (refine (HJ.out _).mono ?_; rintro e' W4 ⟨rfl, hB⟩; have HB4 := Lib.hid (HQ3.out.on hB).1; clear hB)))
   go_ret
   exact ⟨by rw [HL.out]; rfl, HB4.out⟩
  ·have HL : Hid (looseB a b = false) := by unfold Hid looseB; rw [hme, decide_eq_false h0, decide_eq_false h1]; rfl
   have e0 : (m == 0) = false := by simpa using h0
   have e1 : (m == 1) = false := by simpa using h1
   clear hme h0 h1
   go_wp2_with (go_at_call 168; go_must (refine (HM.out _).mono ?_; rintro e' W3 ⟨rfl, hB⟩; have HB3 := Lib.hid (HQX.out.on hB).1; clear hB))
   go_ret
   exact ⟨by rw [HL.out]; rfl, HB3.out⟩

theorem RowI.cap {α : Type} {T : TypeId} {enc : α → List Value} {n : Nat} {w0 W : World} {A : Option Addr} {m c : Nat} {l : List α} (h : RowI w0 T n enc (.slice A m c) l W) : l.length ≤ c := by
 rcases h.2.2 with ⟨_, h0⟩ | ⟨g, cap, cur, e, _, _, h1, _⟩
 ·omega
 ·cases e; exact h1
def ApartP (ys : List EdT) : Prop := ∀ (i j : Nat) (hi : i < ys.length) (hj : j < i), looseB ys[i] (ys[j]'(by omega)) = true
set_option maxRecDepth 100000 in
set_option maxHeartbeats 1000000 in
theorem apart_any (l : List RV) (Ap : Option Addr) (cp : Nat) (hn : (edgs (rgs l)).length ≤ 1000000) (hl : l.length ≤ 1000000) (hlen : ∀ x ∈ l, x.ring.length ≤ 1000000) (hgd : ∀ x ∈ l, ∀ p ∈ x.ring, Gd p) (w : World) (hr : Rgs w Ap l) :
  Calls Tryz.prog 99 #[.slice Ap l.length cp] w fun e w' => ∃ (b : Bool) (ys : List EdT), e = .returned (.bool b) ∧ ys.Perm (stAll (edgs (rgs l))) ∧ (b = true ↔ ApartP ys) ∧ Below w.heap.size w w' := by
 have HS := Lib.hid (stretches_any l Ap cp hn hl hlen hgd w hr)
 have HSL : Hid ((stAll (edgs (rgs l))).length ≤ 1000000) := by
  have := foldl_stK_len (edgs (rgs l)) []
  unfold Hid stAll
  simp only [List.length_nil] at this
  omega
 clear hr hn hl hlen hgd
 generalize stAll (edgs (rgs l)) = st at *
 go_enter Tryz.func99, Tryz.ntmps99
 go_wp2_with fail
 go_at_call 135
 refine HS.out.mono ?_
 rintro e w1 ⟨v, ys, rfl, hp, HV⟩
 obtain ⟨A1, c1, hv1, HI, HNO⟩ := HV.items
 have hcap : ys.length ≤ c1 := by rw [hv1] at HV; exact HV.cap
 subst hv1
 have HCAP := Lib.hid hcap
 have HP := Lib.hid hp
 have HYL : Hid (ys.length ≤ 1000000) := by have := HSL.out; have := hp.length_eq; unfold Hid; omega
 have HB1 := Lib.hid HV.1
 have HIX := Lib.hid (fun W (h : Below w1.heap.size w1 W) => HI.on h)
 clear hp HV HS HNO HI hcap
 go_wp2_with fail
 go_loopg [12] ys.length (fun g i wr => ∃ k : Nat, k ≤ ys.length ∧ g = ys.length - k ∧ i = .int .i64 k ∧ (∀ (i j : Nat) (hi : i < ys.length) (hj : j < i), i < k → looseB ys[i] (ys[j]'(by omega)) = true) ∧ Below w1.heap.size w1 wr)
 case atStart => exact ⟨0, Nat.zero_le _, rfl, rfl, fun i j hi hj h => absurd h (by omega), Below.refl _ _⟩
 case round =>
  obtain ⟨k, hk, hgk, rfl, hno, HB⟩ := hrel
  have HGK := Lib.hid hgk
  have HNO := Lib.hid hno
  clear hgk hno
  by_cases hlt : k < ys.length
  ·obtain ⟨ad, rfl, hadb, hc0, hc⟩ := Items.at kindG.len (HIX.out _ HB) hlt
   have d0 := hc0 _ (by decide) rfl
   have d1 := hc 1 _ (by decide) (by decide) rfl
   have d2 := hc 2 _ (by decide) (by decide) rfl
   have d3 := hc 3 _ (by decide) (by decide) rfl
   have b0 : (0 : Int) ≤ (k : Int) := by omega
   have b1 : (k : Int) < (ys.length : Int) := by omega
   have b2 : (ys.length : Int) ≤ 1000000 := by have := HYL.out; omega
   have b3 : (k : Int) ≤ (c1 : Int) := by have := HCAP.out; omega
   have HX : Hid (∀ j (hj : j < k), looseB ys[k] (ys[j]'(by omega)) = true → True) := fun _ _ _ => trivial
   have HALL : Hid ((∀ j (hj : j < k), looseB ys[k] (ys[j]'(by omega)) = true) → ∀ (i j : Nat) (hi : i < ys.length) (hj : j < i), i < k + 1 → looseB ys[i] (ys[j]'(by omega)) = true) := fun h i j hi hj hik => by
    by_cases e : i = k
    ·subst e; exact h j hj
    ·exact HNO.out i j hi hj (by omega)
   have HBAD : Hid (∀ j (hj : j < k), looseB ys[k] (ys[j]'(by omega)) = false → ¬ ApartP ys) := fun j hj h ha => by
    have := ha k j hlt hj
    rw [h] at this; cases this
   obtain ⟨a, ha⟩ : ∃ a, ys[k] = a := ⟨_, rfl⟩
   rw [ha] at d0 d1 d2 d3 HALL HBAD
   clear hc0 hc HX ha
   go_upto_region 5 with (fail)
   have HQ := (Hold.refl wr).new #[.int .i64 a.1.1, .int .i64 a.1.2, .int .i64 a.2.1, .int .i64 a.2.2] 76
   have HB2 := HB.alloc HB.size (.cells #[.int .i64 a.1.1, .int .i64 a.1.2, .int .i64 a.2.1, .int .i64 a.2.2] 76 (0, 0))
   clear d0 d1 d2 d3 HB hadb
   generalize (World.alloc _ _) = W2 at HQ HB2 ⊢
   generalize wr.heap.size = g5 at HQ ⊢
   have HQX := Lib.hid HQ
   have HBX := Lib.hid HB2
   clear HQ HB2
   go_wp2_with fail
   go_loopg [21] k (fun g i wr => ∃ m : Nat, m ≤ k ∧ g = k - m ∧ i = .int .i64 m ∧ (∀ j (hj : j < k), j < m → looseB a (ys[j]'(by omega)) = true) ∧ Below w1.heap.size w1 wr ∧ Below W2.heap.size W2 wr)
   case atStart => exact ⟨0, Nat.zero_le _, rfl, rfl, fun j hj h => absurd h (by omega), HBX.out, Below.refl _ _⟩
   case round =>
    obtain ⟨m, hm, hgm, rfl, hnm, HB, HBW⟩ := hrel
    have HGM := Lib.hid hgm
    have HNM := Lib.hid hnm
    clear hgm hnm
    have c2 : (0 : Int) ≤ (m : Int) := by omega
    by_cases hmt : m < k
    ·have hmy : m < ys.length := by omega
     obtain ⟨ad', e', hadb', hc0, hc⟩ := Items.at kindG.len (HIX.out _ HB) hmy
     obtain rfl := Option.some.inj e'
     have d0 := hc0 _ (by decide) rfl
     have d1 := hc 1 _ (by decide) (by decide) rfl
     have d2 := hc 2 _ (by decide) (by decide) rfl
     have d3 := hc 3 _ (by decide) (by decide) rfl
     have c3 : (m : Int) < (k : Int) := by omega
     have HN2 : Hid (looseB a ys[m] = true → ∀ j (hj : j < k), j < m + 1 → looseB a (ys[j]'(by omega)) = true) := fun h j hj hjm => by
      by_cases e : j = m
      ·subst e; exact h
      ·exact HNM.out j hj (by omega)
     have HBD := Lib.hid (HBAD.out m hmt)
     have HLO := Lib.hid (fun W => loose_any a ys[m] W)
     have hq4 := HQX.out.on HBW
     obtain ⟨y, hy⟩ : ∃ y, ys[m] = y := ⟨_, rfl⟩
     rw [hy] at d0 d1 d2 d3 HN2 HBD HLO
     clear hc0 hc e' hy
     have hh : Hold wr [] wr := Hold.refl wr
     go_upto_region 8 with (fail)
     have hq5 := hq4.alloc (.cells #[.int .i64 y.1.1, .int .i64 y.1.2, .int .i64 y.2.1, .int .i64 y.2.2] 76 (0, 0))
     have hq6 := hh.new #[.int .i64 y.1.1, .int .i64 y.1.2, .int .i64 y.2.1, .int .i64 y.2.2] 76
     have HB5 := HB.alloc HB.size (.cells #[.int .i64 y.1.1, .int .i64 y.1.2, .int .i64 y.2.1, .int .i64 y.2.2] 76 (0, 0))
     have HBW5 := HBW.alloc HBW.size (.cells #[.int .i64 y.1.1, .int .i64 y.1.2, .int .i64 y.2.1, .int .i64 y.2.2] 76 (0, 0))
     clear d0 d1 d2 d3 HB HBW hq4 hh hadb'
     generalize (World.alloc _ _) = W5 at hq5 hq6 HB5 HBW5 ⊢
     generalize wr.heap.size = g7 at hq6 ⊢
     obtain ⟨c0', c1', c2', c3'⟩ := hq5.q4 (.head _)
     obtain ⟨k0, k1, k2, k3⟩ := hq6.q4 (.head _)
     have HB6 := Lib.hid HB5
     have HBW6 := Lib.hid HBW5
     clear hq5 hq6 HB5 HBW5
     cases hlb : looseB a y
     ·have HD := Lib.hid (HBD.out hlb)
      rw [hlb] at HLO
      clear hlb
      go_wp2_with (go_at_call 136; go_must (refine (HLO.out _).mono ?_; rintro e' W7 ⟨rfl, hB⟩; have HB7 := Lib.hid (Below.trans HB1.out ((Below.trans HB6.out (hB.mono HB6.out.size)).mono HB1.out.size)); clear hB))
      go_ret
      exact ⟨false, ys, rfl, HP.out, ⟨fun h => (by cases h), fun h => absurd h HD.out⟩, HB7.out⟩
     ·have HD := Lib.hid (HN2.out hlb)
      rw [hlb] at HLO
      clear hlb
      go_wp2_with (go_at_call 136; go_must (refine (HLO.out _).mono ?_; rintro e' W7 ⟨rfl, hB⟩; have HB7 := Lib.hid (Below.trans HB6.out (hB.mono HB6.out.size)); have HBW7 := Lib.hid (Below.trans HBW6.out (hB.mono HBW6.out.size)); clear hB))
      go_roundg (k - (m + 1))
      case measure => have := HGM.out; omega
      case rel => exact ⟨m + 1, by omega, rfl, by go_num, HD.out, HB7.out, HBW7.out⟩
    ·obtain rfl : m = k := by omega
     have HAK : Hid (∀ (i j : Nat) (hi : i < ys.length) (hj : j < i), i < m + 1 → looseB ys[i] (ys[j]'(by omega)) = true) := HALL.out fun j hj => HNM.out j hj hj
     have HB9 := Lib.hid HB
     clear HB HBW
     go_wp2_with fail
     go_roundg (ys.length - (m + 1))
     case measure => have := HGK.out; omega
     case rel => exact ⟨m + 1, by omega, rfl, by go_num, HAK.out, HB9.out⟩
  ·obtain rfl : k = ys.length := by omega
   have HA : Hid (ApartP ys) := fun i j hi hj => HNO.out i j hi hj hi
   have HB9 := Lib.hid (Below.trans HB1.out (HB.mono HB1.out.size))
   clear HB HNO
   go_wp2
   go_ret
   exact ⟨true, ys, rfl, HP.out, ⟨fun _ => HA.out, fun _ => rfl⟩, HB9.out⟩
end Go.Proofs.YtjlnjjmomohpaaaGreat

namespace Go.Proofs.YtjlnjjmomohpaaaGreat
open Go.RowKit

def NumAt (l : List PV) (k : Nat) : Prop := ∀ x, l[k]? = some x → lastI l k < x.par.id ∧ idB x.par.id = true ∧ OwnOk x.par.own
def NumP (l : List PV) : Prop := 1 ≤ l.length ∧ l.length ≤ 64 ∧ ∀ k, k < l.length → NumAt l k
noncomputable def numB (l : List PV) : Bool := @decide (NumP l) (Classical.propDecidable _)
theorem numB_iff {l : List PV} : numB l = true ↔ NumP l := by unfold numB; exact @decide_eq_true_iff _ (Classical.propDecidable _)
theorem numB_not {l : List PV} : numB l = false ↔ ¬ NumP l := by rw [← numB_iff, Bool.not_eq_true]
set_option maxRecDepth 100000 in
set_option maxHeartbeats 1000000 in
theorem numbered_any (l : List PV) (Ap : Option Addr) (cp : Nat) (hn : l.length ≤ 1000000) (hown : ∀ x ∈ l, x.par.own.size ≤ maxLen) (w : World) (hr : Prs w Ap l) :
  Calls Tryz.prog 57 #[.slice Ap l.length cp] w fun e' w' => e' = .returned (.bool (numB l)) ∧ Below w.heap.size w w' := by
 have HR := Lib.hid (fun W (h : Below w.heap.size w W) => hr.on h)
 have HO := Lib.hid hown
 clear hr hown
 by_cases h1 : l.length < 1
 ·have HF : Hid (numB l = false) := numB_not.2 fun h => by have := h.1; omega
  have e1 : (l.length : Int) < 1 := by omega
  clear h1
  go_enter Tryz.func57, Tryz.ntmps57
  go_wp2
  go_ret
  exact ⟨by rw [HF.out]; rfl, Below.refl _ _⟩
 ·by_cases h2 : 64 < l.length
  ·have HF : Hid (numB l = false) := numB_not.2 fun h => by have := h.2.1; omega
   have e1 : ¬ (l.length : Int) < 1 := by omega
   have e2 : (64 : Int) < (l.length : Int) := by omega
   clear h1 h2
   go_enter Tryz.func57, Tryz.ntmps57
   go_wp2
   go_ret
   exact ⟨by rw [HF.out]; rfl, Below.refl _ _⟩
  ·have e1 : ¬ (l.length : Int) < 1 := by omega
   have e2 : ¬ (64 : Int) < (l.length : Int) := by omega
   have H12 : Hid (1 ≤ l.length ∧ l.length ≤ 64) := ⟨by omega, by omega⟩
   clear h1 h2
   go_enter Tryz.func57, Tryz.ntmps57
   go_wp2_with fail
   clear e1 e2
   go_loopg [3, 16] l.length (fun g la i wr => ∃ k : Nat, k ≤ l.length ∧ g = l.length - k ∧ i = .int .i64 k ∧ la = .int .i64 (lastI l k) ∧ (∀ j, j < k → NumAt l j) ∧ Below w.heap.size w wr)
   case atStart => exact ⟨0, Nat.zero_le _, rfl, rfl, rfl, fun j hj => absurd hj (by omega), Below.refl _ _⟩
   case round =>
    obtain ⟨k, hk, hgk, rfl, rfl, hno, HB⟩ := hrel
    have HGK := Lib.hid hgk
    have HNO := Lib.hid hno
    clear hgk hno
    by_cases hlt : k < l.length
    ·have hw := HR.out _ HB
     obtain ⟨ad, rfl, -, d0, d1, d2⟩ := hw.at hlt
     have hx : l[k]? = some l[k] := List.getElem?_eq_getElem hlt
     have HS2 := Lib.hid (lastI_succ hx)
     have HOK := Lib.hid (fun W => owner_any l[k].par.own (HO.out _ (List.getElem_mem hlt)) W)
     have HID := Lib.hid (fun W => id_any l[k].par.id W)
     have HBAD : Hid (¬ (lastI l k < l[k].par.id ∧ idB l[k].par.id = true ∧ OwnOk l[k].par.own) → numB l = false) := fun h => numB_not.2 fun hf => h (hf.2.2 k hlt _ hx)
     have HNX : Hid (lastI l k < l[k].par.id ∧ idB l[k].par.id = true ∧ OwnOk l[k].par.own → ∀ j, j < k + 1 → NumAt l j) := fun h j hj => by
      by_cases e : j = k
      ·subst e
       intro y hy
       obtain rfl := Option.some.inj (hx.symm.trans hy)
       exact h
      ·exact HNO.out j (by omega)
     have b0 : (0 : Int) ≤ (k : Int) := by omega
     have b1 : (k : Int) < (l.length : Int) := by omega
     clear hw hx
     generalize l[k].par = x at *
     generalize l[k].A = Ak at *
     generalize l[k].cap = ck at *
     obtain ⟨la, hla⟩ : ∃ n, lastI l k = n := ⟨_, rfl⟩
     rw [hla] at HBAD HNX
     have HLA := Lib.hid hla
     rw [hla]
     clear hla
     go_upto_region 7 with (fail)
     have HQ := (Hold.refl wr).new #[.int .i64 x.id, .slice Ak x.ring.length ck, .string x.own] 58
     have HB2 := HB.alloc HB.size (.cells #[.int .i64 x.id, .slice Ak x.ring.length ck, .string x.own] 58 (0, 0))
     clear d0 d1 d2 HB
     generalize (World.alloc _ _) = W2 at HQ HB2 ⊢
     generalize wr.heap.size = g5 at HQ ⊢
     obtain ⟨c0, c1, c2⟩ : W2.cell? ⟨g5, 0, none⟩ = some (.int .i64 x.id) ∧ W2.cell? ⟨g5, 1, none⟩ = some (.slice Ak x.ring.length ck) ∧ W2.cell? ⟨g5, 2, none⟩ = some (.string x.own) := ⟨HQ.cell (.head _) 0, HQ.cell (.head _) 1, HQ.cell (.head _) 2⟩
     have HQX := Lib.hid HQ
     have HBX := Lib.hid HB2
     clear HQ HB2
     by_cases h1 : x.id ≤ la
     ·have HF : Hid (numB l = false) := HBAD.out fun h => by omega
      clear HBAD HNX HNO
      go_wp2
      go_ret
      exact ⟨by rw [HF.out]; rfl, HBX.out⟩
     ·cases h2 : idB x.id
      ·have HF : Hid (numB l = false) := HBAD.out fun h => by rw [h2] at h; cases h.2.1
       rw [h2] at HID
       clear HBAD HNX HNO h2
       go_wp2_with (go_at_call 92; go_must (refine (HID.out _).mono ?_; rintro e' w' ⟨rfl, rfl⟩))
       go_ret
       exact ⟨by rw [HF.out]; rfl, HBX.out⟩
      ·rw [h2] at HID
       cases h3 : owB x.own
       ·have HF : Hid (numB l = false) := HBAD.out fun h => owB_not.1 h3 h.2.2
        rw [h3] at HOK
        clear HBAD HNX HNO h2 h3
        go_wp2_with (first
         |(go_at_call 92; go_must (refine (HID.out _).mono ?_; rintro e' w' ⟨rfl, rfl⟩))
         |(go_at_call 93; go_must (refine (HOK.out _).mono ?_; rintro e' W3 ⟨rfl, hB⟩; have hq3 := HQX.out.on hB; have c3 := hq3.cell (.head _) 0; simp only [List.getElem?_toArray, List.getElem?_cons_zero] at c3; have HB3 := Lib.hid (Below.trans HBX.out (hB.mono HBX.out.size)); clear hB hq3)))
        go_ret
        exact ⟨by rw [HF.out]; rfl, HB3.out⟩
       ·have HN := Lib.hid (HNX.out ⟨by omega, h2, owB_iff.1 h3⟩)
        rw [h3] at HOK
        clear HBAD HNX HNO h2 h3
        go_wp2_with (first
         |(go_at_call 92; go_must (refine (HID.out _).mono ?_; rintro e' w' ⟨rfl, rfl⟩))
         |(go_at_call 93; go_must (refine (HOK.out _).mono ?_; rintro e' W3 ⟨rfl, hB⟩; have hq3 := HQX.out.on hB; have c3 := hq3.cell (.head _) 0; simp only [List.getElem?_toArray, List.getElem?_cons_zero] at c3; have HB3 := Lib.hid (Below.trans HBX.out (hB.mono HBX.out.size)); clear hB hq3)))
        go_roundg (l.length - (k + 1))
        case measure => have := HGK.out; omega
        case rel => exact ⟨k + 1, by omega, rfl, by go_num, by rw [HS2.out], HN.out, HB3.out⟩
    ·obtain rfl : k = l.length := by omega
     have HF : Hid (numB l = true) := numB_iff.2 ⟨H12.out.1, H12.out.2, HNO.out⟩
     have HB9 := Lib.hid HB
     clear HB HNO
     go_wp2
     go_ret
     exact ⟨by rw [HF.out]; rfl, HB9.out⟩

def toRV (x : PV) : RV := ⟨x.par.ring, x.A, x.cap⟩
def allRV (o : List (Int × Int)) (Ao : Option Addr) (co : Nat) (l : List PV) : List RV := ⟨o, Ao, co⟩ :: l.map toRV
theorem rgs_all (o : List (Int × Int)) (Ao : Option Addr) (co : Nat) (l : List PV) : rgs (allRV o Ao co l) = o :: rings l := by
 unfold rgs allRV rings
 rw [List.map_cons, List.map_map]; rfl
set_option maxRecDepth 100000 in
set_option maxHeartbeats 1000000 in
theorem rings_any (o : List (Int × Int)) (Ao : Option Addr) (co : Nat) (l : List PV) (Ap : Option Addr) (cp : Nat) (hl : l.length ≤ 1000000) (w : World) (hr : Prs w Ap l) :
  Calls Tryz.prog 59 #[.agg #[.slice Ao o.length co, .slice Ap l.length cp]] w fun e' w' => ∃ v, e' = .returned v ∧ RowI w 23 1 encRV v (allRV o Ao co l) w' := by
 have HR := Lib.hid (fun W (h : Below w.heap.size w W) => hr.on h)
 have HQ := ((Hold.refl w).new #[.slice Ao o.length co, .slice Ap l.length cp] 26).new' #[.slice Ao o.length co] 23 (n := w.heap.size + 1) (by simp)
 have HV0 : RowI w 23 1 encRV (.slice (some ⟨w.heap.size + 1, 0, none⟩) 1 1) (allRV o Ao co (l.take 0)) ((w.alloc (Obj.cells #[.slice Ao o.length co, .slice Ap l.length cp] 26 (0, 0))).alloc (Obj.cells #[.slice Ao o.length co] 23 (0, 0))) :=
  ⟨HQ.1, rfl, .inr ⟨w.heap.size + 1, 1, _, rfl, by omega, (HQ.2.1 _ (.head _)).1, (show 1 ≤ 1 by decide), by decide, rfl, rfl⟩⟩
 clear hr
 go_enter Tryz.func59, Tryz.ntmps59
 go_upto_region 2 with (fail)
 have HQ1 := HQ.tail
 clear HQ
 generalize (World.alloc (World.alloc w _) _) = W1 at HQ1 HV0 ⊢
 generalize w.heap.size + 1 = g1 at HV0 ⊢
 obtain ⟨g0, hg0⟩ : ∃ g, w.heap.size = g := ⟨_, rfl⟩
 rw [hg0] at HQ1 ⊢
 have HG0 := Lib.hid hg0
 clear hg0
 obtain ⟨c0, c1⟩ := HQ1.pt (.head _)
 have HQX := Lib.hid HQ1
 have HVX := Lib.hid HV0
 clear HQ1 HV0
 go_wp2_with fail
 go_loopg [3, 12] l.length (fun g v i wr => ∃ k : Nat, k ≤ l.length ∧ g = l.length - k ∧ i = .int .i64 k ∧ RowI w 23 1 encRV v (allRV o Ao co (l.take k)) wr)
 case atStart => exact ⟨0, Nat.zero_le _, rfl, rfl, HVX.out⟩
 case round =>
  clear c0 c1
  obtain ⟨k, hk, hgk, rfl, HV⟩ := hrel
  have HGK := Lib.hid hgk
  clear hgk
  by_cases hlt : k < l.length
  ·have hw := HR.out _ HV.1
   obtain ⟨ad, rfl, -, d0, d1, d2⟩ := hw.at hlt
   have HT : Hid (allRV o Ao co (l.take (k + 1)) = allRV o Ao co (l.take k) ++ [toRV l[k]]) := by
    unfold Hid allRV
    rw [List.take_succ_eq_append_getElem hlt, List.map_append]; rfl
   have HLN : Hid ((allRV o Ao co (l.take k)).length ≤ 1000001) := by
    unfold Hid allRV
    rw [List.length_cons, List.length_map, List.length_take]; omega
   have HEV : Hid (encRV (toRV l[k]) = [.slice l[k].A l[k].par.ring.length l[k].cap]) := rfl
   have b0 : (0 : Int) ≤ (k : Int) := by omega
   have b1 : (k : Int) < (l.length : Int) := by omega
   clear hw
   generalize allRV o Ao co (l.take k) = rs at *
   generalize toRV l[k] = rv at *
   generalize l[k].par = x at *
   generalize l[k].A = Ak at *
   generalize l[k].cap = ck at *
   go_upto_region 5 with (fail)
   have HQ := (Hold.refl wr).new #[.int .i64 x.id, .slice Ak x.ring.length ck, .string x.own] 58
   have HV1 := HV.alloc (.cells #[.int .i64 x.id, .slice Ak x.ring.length ck, .string x.own] 58 (0, 0))
   clear HV d0 d1 d2
   generalize (World.alloc _ _) = W2 at HQ HV1 ⊢
   generalize wr.heap.size = gx at HQ ⊢
   obtain ⟨c0, c1, c2⟩ : W2.cell? ⟨gx, 0, none⟩ = some (.int .i64 x.id) ∧ W2.cell? ⟨gx, 1, none⟩ = some (.slice Ak x.ring.length ck) ∧ W2.cell? ⟨gx, 2, none⟩ = some (.string x.own) := ⟨HQ.cell (.head _) 0, HQ.cell (.head _) 1, HQ.cell (.head _) 2⟩
   have HV2 := Lib.hid HV1
   clear HV1 HQ
   go_wp2_with (at_builtin; go_must (refine append_item kindRV Tryz.underlying109 HV2.out rv 23 (cs := #[.slice Ak x.ring.length ck]) (by rw [HEV.out]) (by have := HLN.out; unfold maxLen; omega) (by have := HLN.out; omega) rfl _ _ rfl rfl 1 rfl ?_; intro v9 w9 HR9))
   go_roundg (l.length - (k + 1))
   case measure => have := HGK.out; omega
   case rel => exact ⟨k + 1, by omega, rfl, by go_num, by rw [HT.out]; exact HR9⟩
  ·obtain rfl : k = l.length := by omega
   rw [List.take_length] at HV
   have HV9 := Lib.hid HV
   clear HV
   go_wp2
   go_ret
   exact ⟨_, rfl, HV9.out⟩
end Go.Proofs.YtjlnjjmomohpaaaGreat
