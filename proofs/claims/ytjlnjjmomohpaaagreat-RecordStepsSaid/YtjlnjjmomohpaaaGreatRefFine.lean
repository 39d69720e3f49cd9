/- The document's own answers on plans, first part: At, In, Corner, SameParcel. -/
import Derived.Test.YtjlnjjmomohpaaaGreatRefPar
import Derived.Test.YtjlnjjmomohpaaaGreatRingP
namespace Go.Proofs.YtjlnjjmomohpaaaGreat
open Go.RowKit

section
variable {w W : World} {g : Nat} {t : TypeId} {x0 x1 x2 : Value} {L2 : List (Nat × Array Value × TypeId)}
theorem Hold.q3 (h : Hold w L2 W) (hm : (g, #[x0, x1, x2], t) ∈ L2) : W.cell? ⟨g, 0, none⟩ = some x0 ∧ W.cell? ⟨g, 1, none⟩ = some x1 ∧ W.cell? ⟨g, 2, none⟩ = some x2 := ⟨h.cell hm 0, h.cell hm 1, h.cell hm 2⟩
end
set_option maxRecDepth 100000 in
set_option maxHeartbeats 2000000 in
theorem ref_at (o : List (Int × Int)) (Ao : Option Addr) (co : Nat) (l : List PV) (Ap : Option Addr) (cp : Nat) (id : Int) (hn : l.length ≤ 1000000) (w : World) (hr : Prs w Ap l) :
  Calls Tryz.prog 55 #[.agg #[.slice Ao o.length co, .slice Ap l.length cp], .int .i64 id] w fun e' w' => ∃ n, e' = .returned (.int .i64 n) ∧ Plc (l.map fun x => x.par.id) id n ∧ Below w.heap.size w w' := by
 have HR := Lib.hid (fun K W (h : Hold w K W) => hr.on h.1)
 have HQ := (Hold.refl w).new #[.slice Ao o.length co, .slice Ap l.length cp] 26
 clear hr
 go_enter Tryz.func55, Tryz.ntmps55
 go_upto_region 1 with (fail)
 generalize (World.alloc _ _) = W1 at HQ ⊢
 obtain ⟨g0, hg0⟩ : ∃ g, w.heap.size = g := ⟨_, rfl⟩
 rw [hg0] at HQ ⊢
 have HG0 := Lib.hid hg0
 clear hg0
 go_wp2_with fail
 go_loopg [5] l.length (fun g i wr => ∃ k : Nat, k ≤ l.length ∧ g = l.length - k ∧ i = .int .i64 k ∧ (∀ j : Nat, j < k → (l.map fun x => x.par.id)[j]? ≠ some id) ∧ Hold w [(g0, #[.slice Ao o.length co, .slice Ap l.length cp], 26)] wr)
 case atStart => exact ⟨0, Nat.zero_le _, rfl, rfl, fun j hj => absurd hj (by omega), HQ⟩
 case round =>
  clear HQ
  obtain ⟨k, hk, hgk, rfl, hno, HB⟩ := hrel
  have HGK := Lib.hid hgk
  have HNO := Lib.hid hno
  clear hgk hno
  obtain ⟨c0, c1⟩ := HB.pt (.head _)
  by_cases hlt : k < l.length
  ·obtain ⟨ad, rfl, -, d0, -, -⟩ := (HR.out _ _ HB).at hlt
   have HAT : Hid ((l.map fun x => x.par.id)[k]? = some l[k].par.id) := by unfold Hid; rw [List.getElem?_map, List.getElem?_eq_getElem hlt]; rfl
   have b0 : (0 : Int) ≤ (k : Int) := by omega
   have b1 : (k : Int) < (l.length : Int) := by omega
   generalize l[k].par.id = x at *
   by_cases h : x = id
   ·have HP : Hid (Plc (l.map fun x => x.par.id) id k) := .inr ⟨k, rfl, by rw [HAT.out, h], HNO.out⟩
    have e1 : (x == id) = true := by simpa using h
    have HK := Lib.hid HB.1
    clear h HAT HNO HGK HB
    go_wp2
    go_ret
    exact ⟨_, rfl, HP.out, HK.out⟩
   ·have HN : Hid (∀ j : Nat, j < k + 1 → (l.map fun x => x.par.id)[j]? ≠ some id) := fun j hj hh => by
     by_cases ej : j = k
     ·subst ej; rw [HAT.out] at hh; exact h (Option.some.inj hh)
     ·exact HNO.out j (by omega) hh
    have e1 : (x == id) = false := by simpa using h
    have HK := Lib.hid HB
    clear h HAT HNO HB
    go_wp2
    go_roundg (l.length - (k + 1))
    case measure => have := HGK.out; omega
    case rel => exact ⟨k + 1, by omega, rfl, by go_num, HN.out, HK.out⟩
  ·obtain rfl : k = l.length := by omega
   have HP : Hid (Plc (l.map fun x => x.par.id) id (-1)) := .inl ⟨rfl, fun h => by
    obtain ⟨i, hi, he⟩ := List.getElem_of_mem h
    have hi' : i < l.length := by rw [List.length_map] at hi; exact hi
    exact HNO.out i hi' (by rw [List.getElem?_eq_getElem hi, he])⟩
   have HK := Lib.hid HB.1
   clear HB HNO HR
   go_wp2
   go_ret
   exact ⟨_, rfl, HP.out, HK.out⟩

theorem Prs.cells {w W : World} {A : Option Addr} {l : List PV} {ad : Addr} {k : Nat} {x : PV} (hA : A = some ad) (hr : Prs w A l) (hx : l[k]? = some x) (hB : Below w.heap.size w W) : W.cell? (ad.add (k * 3)) = some (.int .i64 x.par.id) ∧ W.cell? ⟨(ad.add (k * 3)).block, (ad.add (k * 3)).off + 1, none⟩ = some (.slice x.A x.par.ring.length x.cap) ∧ W.cell? ⟨(ad.add (k * 3)).block, (ad.add (k * 3)).off + 2, none⟩ = some (.string x.par.own) := by
 have hlt : k < l.length := by
  by_cases h : k < l.length
  ·exact h
  ·rw [List.getElem?_eq_none (by omega)] at hx; cases hx
 obtain rfl : l[k] = x := by rw [List.getElem?_eq_getElem hlt] at hx; exact Option.some.inj hx
 obtain ⟨ad', e, -, h0, h1, h2⟩ := (hr.on hB).at hlt
 obtain rfl := Option.some.inj (hA.symm.trans e)
 exact ⟨h0, h1, h2⟩
set_option maxRecDepth 100000 in
set_option maxHeartbeats 2000000 in
theorem ref_normed (ps : List (Int × Int)) (A : Option Addr) (cap : Nat) (hn : ps.length ≤ maxLen) (hb : ps.length ≤ 1000000000) (w : World) (hr : Pts w w.heap.size A ps) :
  Calls Tryz.prog 32 #[.slice A ps.length cap] w fun e' w' => ∃ b, e' = .returned (.bool b) ∧ (b = true ↔ chE ps = 0 ∧ ps = rotL ps (leastI ps ps.length)) ∧ Below w.heap.size w w' := by
 have HC := Lib.hid (ref_check ps A cap hn w hr)
 have HR := Lib.hid hr
 have HN := Lib.hid hn
 have HBB := Lib.hid hb
 clear hr hn hb
 go_enter Tryz.func32, Tryz.ntmps32
 go_wp2_with fail
 go_at_call 72
 refine HC.out.mono ?_
 rintro e w1 ⟨rfl, hB⟩
 by_cases h : chE ps = 0
 ·have e1 : (chE ps == 0) = true := by simpa using h
  have HH := Lib.hid h
  have HK := Lib.hid hB
  clear hB h
  have HL := Lib.hid (fun W (h : Below w.heap.size w W) => ref_least ps A cap HBB.out W (HR.out.on h))
  go_wp2_with fail
  go_at_call 73
  refine (HL.out _ HK.out).mono ?_
  rintro e w2 ⟨v, rfl, HV⟩
  obtain ⟨A1, c1, rfl, hp1⟩ := HV.pts
  have HB2 := Lib.hid (HK.out.trans (HV.1.mono HK.out.size))
  have hlr : (rotL ps (leastI ps ps.length)).length = ps.length := by rw [rotL_length]
  have HSM := Lib.hid (ref_same ps _ A A1 cap c1 HN.out _ (HR.out.on HB2.out) hp1)
  clear HV hp1 hlr HL
  generalize hq : rotL ps (leastI ps ps.length) = qs at *
  have HQS := Lib.hid hq
  clear hq
  go_wp2_with fail
  go_at_call 22
  refine HSM.out.mono ?_
  rintro e w3 ⟨rfl, hB⟩
  have HB3 := Lib.hid (HB2.out.trans (hB.mono HB2.out.size))
  clear hB HSM HB2
  go_wp2
  go_ret
  exact ⟨_, rfl, by rw [decide_eq_true_eq, HQS.out]; exact ⟨fun h => ⟨HH.out, h⟩, fun h => h.2⟩, HB3.out⟩
 ·have e1 : (chE ps == 0) = false := by simpa using h
  have HH := Lib.hid h
  have HK := Lib.hid hB
  clear hB h
  go_wp2
  go_ret
  exact ⟨false, rfl, ⟨fun h => (by cases h), fun h => absurd h.1 HH.out⟩, HK.out⟩
end Go.Proofs.YtjlnjjmomohpaaaGreat

namespace Go.Proofs.YtjlnjjmomohpaaaGreat
open Go.RowKit

def cornN (o : List (Int × Int)) (l : List PV) : Nat → Nat
 |0 => o.length
 |k + 1 => cornN o l k + (match l[k]? with | some x => x.par.ring.length | none => 0)
def lastI (l : List PV) : Nat → Int
 |0 => 0
 |k + 1 => match l[k]? with | some x => x.par.id | none => 0
def FineAt (o : List (Int × Int)) (l : List PV) (k : Nat) : Prop := ∀ x, l[k]? = some x → idB x.par.id = true ∧ lastI l k < x.par.id ∧ OwnOk x.par.own ∧ cornN o l (k + 1) ≤ 1024
def FineP (o : List (Int × Int)) (l : List PV) : Prop := (∀ k, k < l.length → FineAt o l k) ∧ 1 ≤ l.length ∧ l.length ≤ 64 ∧ cornN o l l.length ≤ 1024
noncomputable def fineB (o : List (Int × Int)) (l : List PV) : Bool := @decide (FineP o l) (Classical.propDecidable _)
theorem fineB_iff {o : List (Int × Int)} {l : List PV} : fineB o l = true ↔ FineP o l := by unfold fineB; exact @decide_eq_true_iff _ (Classical.propDecidable _)
theorem fineB_not {o : List (Int × Int)} {l : List PV} : fineB o l = false ↔ ¬ FineP o l := by rw [← fineB_iff, Bool.not_eq_true]
theorem cornN_succ {o : List (Int × Int)} {l : List PV} {k : Nat} {x : PV} (h : l[k]? = some x) : cornN o l (k + 1) = cornN o l k + x.par.ring.length := by rw [cornN, h]
theorem lastI_succ {l : List PV} {k : Nat} {x : PV} (h : l[k]? = some x) : lastI l (k + 1) = x.par.id := by rw [lastI, h]

set_option maxRecDepth 100000 in
set_option maxHeartbeats 8000000 in
theorem ref_fine (o : List (Int × Int)) (Ao : Option Addr) (co : Nat) (l : List PV) (Ap : Option Addr) (cp : Nat) (hn : l.length ≤ 1000000) (ho : o.length ≤ 1000000000000) (hown : ∀ x ∈ l, x.par.own.size ≤ maxLen) (w : World) (hr : Prs w Ap l) :
  Calls Tryz.prog 31 #[.agg #[.slice Ao o.length co, .slice Ap l.length cp]] w fun e' w' => e' = .returned (.bool (fineB o l)) ∧ Below w.heap.size w w' := by
 have HR := Lib.hid (fun K W (h : Hold w K W) => hr.on h.1)
 have HO := Lib.hid hown
 have HLO := Lib.hid ho
 have HQ := (Hold.refl w).new #[.slice Ao o.length co, .slice Ap l.length cp] 26
 clear hr hown ho
 go_enter Tryz.func31, Tryz.ntmps31
 go_upto_region 1 with (fail)
 generalize (World.alloc _ _) = W1 at HQ ⊢
 obtain ⟨g0, hg0⟩ : ∃ g, w.heap.size = g := ⟨_, rfl⟩
 rw [hg0] at HQ ⊢
 have HG0 := Lib.hid hg0
 clear hg0
 obtain ⟨c0, c1⟩ := HQ.pt (.head _)
 go_wp2_with fail
 go_loopg [3, 4, 5] l.length (fun g n la i wr => ∃ k : Nat, k ≤ l.length ∧ g = l.length - k ∧ i = .int .i64 k ∧ n = .int .i64 (cornN o l k) ∧ la = .int .i64 (lastI l k) ∧ (0 < k → cornN o l k ≤ 1024) ∧ (∀ j, j < k → FineAt o l j) ∧ Hold w [(g0, #[.slice Ao o.length co, .slice Ap l.length cp], 26)] wr)
 case atStart => exact ⟨0, Nat.zero_le _, rfl, rfl, rfl, rfl, fun h => absurd h (by omega), fun j hj => absurd hj (by omega), HQ⟩
 case round =>
  clear HQ c0 c1
  obtain ⟨k, hk, hgk, rfl, rfl, rfl, hlim, hno, HB⟩ := hrel
  have HGK := Lib.hid hgk
  have HNO := Lib.hid hno
  clear hgk hno
  obtain ⟨c0, c1⟩ := HB.pt (.head _)
  by_cases hlt : k < l.length
  ·have hw := HR.out _ _ HB
   obtain ⟨ad, rfl, -, d0, d1, d2⟩ := hw.at hlt
   have hsz := (hw.2 l[k] (List.getElem_mem hlt)).2.2
   have hx : l[k]? = some l[k] := List.getElem?_eq_getElem hlt
   have hs1 := cornN_succ (o := o) hx
   have hs2 := lastI_succ hx
   have HXK := Lib.hid hx
   have hlo := HLO.out
   have hcl : cornN o l k ≤ 1000000000000 := by
    by_cases h0 : 0 < k
    ·have := hlim h0; omega
    ·obtain rfl : k = 0 := by omega
     exact hlo
   have HOK := Lib.hid (fun W => ref_owner l[k].par.own (HO.out _ (List.getElem_mem hlt)) W)
   have HID := Lib.hid (fun W => ref_id l[k].par.id W)
   have HBAD : Hid (¬ (idB l[k].par.id = true ∧ lastI l k < l[k].par.id ∧ OwnOk l[k].par.own ∧ cornN o l k + l[k].par.ring.length ≤ 1024) → fineB o l = false) := fun h => fineB_not.2 fun hf => h (by rw [← hs1]; exact hf.1 k hlt _ hx)
   have HNX : Hid (idB l[k].par.id = true ∧ lastI l k < l[k].par.id ∧ OwnOk l[k].par.own ∧ cornN o l k + l[k].par.ring.length ≤ 1024 → ∀ j, j < k + 1 → FineAt o l j) := fun h j hj => by
    by_cases e : j = k
    ·subst e
     intro y hy
     obtain rfl := Option.some.inj (hx.symm.trans hy)
     rw [hs1]; exact h
    ·exact HNO.out j (by omega)
   have HS1 := Lib.hid hs1
   have HS2 := Lib.hid hs2
   have b0 : (0 : Int) ≤ (k : Int) := by omega
   have b1 : (k : Int) < (l.length : Int) := by omega
   have w1 := wrap_in (n := (cornN o l k : Int) + (l[k].par.ring.length : Int)) (by omega) (by omega)
   clear hw hx hs1 hs2 hsz hlo hcl hlim HNO
   generalize l[k].A = Ak at *
   generalize l[k].cap = ck at *
   generalize l[k].par = x at *
   generalize cornN o l k = n0 at *
   generalize lastI l k = la at *
   have HB1 := HB.new #[.int .i64 x.id, .slice Ak x.ring.length ck, .string x.own] 58
   go_upto_region 7 with (fail)
   generalize (World.alloc wr _) = W4 at HB1 ⊢
   generalize wr.heap.size = g6 at HB1 ⊢
   clear c0 c1 d0 d1 d2 HB
   obtain ⟨f0, f1, f2⟩ := HB1.q3 List.mem_cons_self
   by_cases h1 : idB x.id = true
   ·by_cases h2 : x.id ≤ la
    ·have HE := Lib.hid (HBAD.out fun h => by omega)
     rw [h1] at HID
     clear HBAD HNX HOK
     go_wp2_with (go_at_call 70; go_must ((with_reducible refine (HID.out _).mono ?_); rintro e w' ⟨rfl, hB⟩; replace HB1 := HB1.on hB; clear hB f0 f1 f2; obtain ⟨f0, f1, f2⟩ := HB1.q3 List.mem_cons_self))
     go_ret
     rw [HE.out]
     exact ⟨rfl, HB1.1⟩
    ·by_cases h3 : OwnOk x.own
     ·rw [h1] at HID
      rw [owB_iff.2 h3] at HOK
      by_cases h4 : n0 + x.ring.length ≤ 1024
      ·have h4' : ¬ (1024 : Int) < (n0 : Int) + (x.ring.length : Int) := by omega
       have HN := Lib.hid (HNX.out ⟨h1, by omega, h3, h4⟩)
       have HL4 : Hid (cornN o l (k + 1) ≤ 1024) := by unfold Hid; rw [HS1.out]; exact h4
       clear HBAD HNX h3 h4 h1
       go_wp2_with (first
        |(go_at_call 70; go_must ((with_reducible refine (HID.out _).mono ?_); rintro e w' ⟨rfl, hB⟩; replace HB1 := HB1.on hB; clear hB f0 f1 f2; obtain ⟨f0, f1, f2⟩ := HB1.q3 List.mem_cons_self))
        |(go_at_call 71; go_must ((with_reducible refine (HOK.out _).mono ?_); rintro e w' ⟨rfl, hB⟩; replace HB1 := HB1.on hB; clear hB f0 f1 f2; obtain ⟨f0, f1, f2⟩ := HB1.q3 List.mem_cons_self)))
       go_roundg (l.length - (k + 1))
       case measure => have := HGK.out; omega
       case rel => exact ⟨k + 1, by omega, rfl, by go_num, by rw [HS1.out]; go_num, by rw [HS2.out], fun _ => HL4.out, HN.out, HB1.tail⟩
      ·have h4' : (1024 : Int) < (n0 : Int) + (x.ring.length : Int) := by omega
       have HE := Lib.hid (HBAD.out fun h => h4 h.2.2.2)
       clear HBAD HNX h3 h4 h1
       go_wp2_with (first
        |(go_at_call 70; go_must ((with_reducible refine (HID.out _).mono ?_); rintro e w' ⟨rfl, hB⟩; replace HB1 := HB1.on hB; clear hB f0 f1 f2; obtain ⟨f0, f1, f2⟩ := HB1.q3 List.mem_cons_self))
        |(go_at_call 71; go_must ((with_reducible refine (HOK.out _).mono ?_); rintro e w' ⟨rfl, hB⟩; replace HB1 := HB1.on hB; clear hB f0 f1 f2; obtain ⟨f0, f1, f2⟩ := HB1.q3 List.mem_cons_self)))
       go_ret
       rw [HE.out]
       exact ⟨rfl, HB1.1⟩
     ·rw [h1] at HID
      rw [owB_not.2 h3] at HOK
      have HE := Lib.hid (HBAD.out fun h => h3 h.2.2.1)
      clear HBAD HNX h3 h1
      go_wp2_with (first
       |(go_at_call 70; go_must ((with_reducible refine (HID.out _).mono ?_); rintro e w' ⟨rfl, hB⟩; replace HB1 := HB1.on hB; clear hB f0 f1 f2; obtain ⟨f0, f1, f2⟩ := HB1.q3 List.mem_cons_self))
       |(go_at_call 71; go_must ((with_reducible refine (HOK.out _).mono ?_); rintro e w' ⟨rfl, hB⟩; replace HB1 := HB1.on hB; clear hB f0 f1 f2; obtain ⟨f0, f1, f2⟩ := HB1.q3 List.mem_cons_self)))
      go_ret
      rw [HE.out]
      exact ⟨rfl, HB1.1⟩
   ·have HE := Lib.hid (HBAD.out fun h => h1 h.1)
    rw [Bool.not_eq_true] at h1
    rw [h1] at HID
    clear HBAD HNX HOK
    go_wp2_with (go_at_call 70; go_must ((with_reducible refine (HID.out _).mono ?_); rintro e w' ⟨rfl, hB⟩; replace HB1 := HB1.on hB; clear hB f0 f1 f2; obtain ⟨f0, f1, f2⟩ := HB1.q3 List.mem_cons_self))
    go_ret
    rw [HE.out]
    exact ⟨rfl, HB1.1⟩
  ·obtain rfl : k = l.length := by omega
   have HE : Hid (fineB o l = (decide (1 ≤ l.length) && decide (l.length ≤ 64) && decide (cornN o l l.length ≤ 1024))) := by
    unfold Hid
    rw [Bool.eq_iff_iff, fineB_iff, Bool.and_eq_true, Bool.and_eq_true, decide_eq_true_eq, decide_eq_true_eq, decide_eq_true_eq]
    exact ⟨fun h => ⟨⟨h.2.1, h.2.2.1⟩, h.2.2.2⟩, fun h => ⟨HNO.out, h.1.1, h.1.2, h.2⟩⟩
   have HK := Lib.hid HB.1
   clear HB HNO HR hlim
   generalize cornN o l l.length = n0 at *
   by_cases h1 : 1 ≤ l.length
   ·have h1' : (1 : Int) ≤ (l.length : Int) := by omega
    by_cases h2 : l.length ≤ 64
    ·have h2' : (l.length : Int) ≤ 64 := by omega
     by_cases h3 : n0 ≤ 1024
     ·have h3' : (n0 : Int) ≤ 1024 := by omega
      rw [decide_eq_true h1, decide_eq_true h2, decide_eq_true h3] at HE
      go_wp2
      go_ret
      rw [HE.out]
      first | exact ⟨rfl, HK.out⟩ | exact ⟨by simp only [decide_true, decide_false, Bool.true_and, Bool.false_and, Bool.and_true, Bool.and_false]; rfl, HK.out⟩ | exact ⟨by simp, HK.out⟩
     ·have h3' : ¬ (n0 : Int) ≤ 1024 := by omega
      rw [decide_eq_true h1, decide_eq_true h2, decide_eq_false h3] at HE
      go_wp2
      go_ret
      rw [HE.out]
      first | exact ⟨rfl, HK.out⟩ | exact ⟨by simp only [decide_true, decide_false, Bool.true_and, Bool.false_and, Bool.and_true, Bool.and_false]; rfl, HK.out⟩ | exact ⟨by simp, HK.out⟩
    ·have h2' : ¬ (l.length : Int) ≤ 64 := by omega
     rw [decide_eq_true h1, decide_eq_false h2] at HE
     go_wp2
     go_ret
     rw [HE.out]
     first | exact ⟨rfl, HK.out⟩ | exact ⟨by simp only [decide_true, decide_false, Bool.true_and, Bool.false_and, Bool.and_true, Bool.and_false]; rfl, HK.out⟩ | exact ⟨by simp, HK.out⟩
   ·have h1' : ¬ (1 : Int) ≤ (l.length : Int) := by omega
    rw [decide_eq_false h1] at HE
    go_wp2
    go_ret
    rw [HE.out]
    first | exact ⟨rfl, HK.out⟩ | exact ⟨by simp only [decide_true, decide_false, Bool.true_and, Bool.false_and, Bool.and_true, Bool.and_false]; rfl, HK.out⟩ | exact ⟨by simp, HK.out⟩
end Go.Proofs.YtjlnjjmomohpaaaGreat
namespace Go.Proofs.YtjlnjjmomohpaaaGreat
open Go.RowKit

def NormP (r : List (Int × Int)) : Prop := chE r = 0 ∧ r = rotL r (leastI r r.length)
def areaS (l : List PV) : Nat → Int
 |0 => 0
 |k + 1 => areaS l k + (match l[k]? with | some x => area x.par.ring | none => 0)
theorem areaS_succ {l : List PV} {k : Nat} {x : PV} (h : l[k]? = some x) : areaS l (k + 1) = areaS l k + area x.par.ring := by rw [areaS, h]
def EdgeP (o : List (Int × Int)) (es : List ((Int × Int) × (Int × Int))) (i : Nat) : Prop := ∀ e, es[i]? = some e → (∀ j : Nat, j < i → es[j]? ≠ some e) ∧ (e ∈ edg o ↔ bk e ∉ es)
def PairP (es : List ((Int × Int) × (Int × Int))) (i j : Nat) : Prop := ∀ a b, es[i]? = some a → es[j]? = some b → Pair a b
def CheckP (o : List (Int × Int)) (l : List PV) : Prop := FineP o l ∧ NormP o ∧ (∀ x ∈ l, NormP x.par.ring) ∧ areaS l l.length = area o ∧ (∀ i, i < (edgs (rings l)).length → EdgeP o (edgs (rings l)) i) ∧ (∀ i j, i < j → j < (edgs (rings l)).length → PairP (edgs (rings l)) i j) ∧ (∀ e ∈ edg o, e ∈ edgs (rings l))
noncomputable def chkB (o : List (Int × Int)) (l : List PV) : Bool := @decide (CheckP o l) (Classical.propDecidable _)
theorem chkB_iff {o : List (Int × Int)} {l : List PV} : chkB o l = true ↔ CheckP o l := by unfold chkB; exact @decide_eq_true_iff _ (Classical.propDecidable _)
theorem chkB_not {o : List (Int × Int)} {l : List PV} : chkB o l = false ↔ ¬ CheckP o l := by rw [← chkB_iff, Bool.not_eq_true]
theorem area_lim {r : List (Int × Int)} (h : chE r = 0) : -(128 * 2305843009213693952) ≤ area r ∧ area r ≤ 128 * 2305843009213693952 := by
 obtain ⟨hn, hg⟩ := arE_zero.1 (chE_zero.1 h).1
 have h3 := (chE_zero.1 h).2.1
 have := rim_lim hg (by omega) r.length (by omega)
 have e : area r = sumTo (rimS r) r.length := rfl
 have hm : (r.length : Int) * 2305843009213693952 ≤ 128 * 2305843009213693952 := by omega
 omega
theorem arHL {r : List (Int × Int)} (h : chE r = 0) : arH r = hiOf (area r) ∧ arL r = loOf (area r) ∧ arE r = 0 := by
 have h1 := (chE_zero.1 h).1
 unfold arH arL
 rw [if_pos h1, if_pos h1]
 exact ⟨rfl, rfl, h1⟩
theorem ring_le {o : List (Int × Int)} {l : List PV} : ∀ (k : Nat) (x : PV), l[k]? = some x → x.par.ring.length ≤ cornN o l (k + 1) := fun k x h => by rw [cornN_succ h]; omega
theorem cornN_mono {o : List (Int × Int)} {l : List PV} : ∀ {k m : Nat}, k ≤ m → cornN o l k ≤ cornN o l m
  | k, 0, h => by obtain rfl : k = 0 := by omega
                  exact Nat.le_refl _
  | k, m + 1, h => by
    by_cases e : k = m + 1
    · subst e; exact Nat.le_refl _
    · have := cornN_mono (o := o) (l := l) (show k ≤ m by omega)
      rw [cornN]; omega

theorem edgs_cornN (o : List (Int × Int)) (l : List PV) : ∀ k, k ≤ l.length → o.length + (edgs (rings (l.take k))).length = cornN o l k
 |0, _ => by simp [rings, edgs, cornN]
 |k + 1, h => by
  have hlt : k < l.length := by omega
  rw [edgs_take hlt, List.length_append, edg_len, cornN_succ (List.getElem?_eq_getElem hlt), ← edgs_cornN o l k (by omega)]; omega
theorem edgs_lim {o : List (Int × Int)} {l : List PV} (h : FineP o l) : o.length + (edgs (rings l)).length ≤ 1024 := by
 have := edgs_cornN o l l.length (Nat.le_refl _)
 rw [List.take_length] at this
 have := h.2.2.2
 omega
theorem hiLo_ne {x y : Int} (h : x ≠ y) : ¬ hiOf x = hiOf y ∨ (hiOf x = hiOf y ∧ ¬ loOf x = loOf y) := by
 by_cases h1 : hiOf x = hiOf y
 ·exact .inr ⟨h1, fun h2 => h (by rw [← val_of x, ← val_of y, h1, h2])⟩
 ·exact .inl h1
theorem es_gd {l : List PV} (h : ∀ x ∈ l, NormP x.par.ring) : ∀ e ∈ edgs (rings l), Gd e.1 ∧ Gd e.2 := fun e he => by
 obtain ⟨r, hr, her⟩ := mem_edgs.1 he
 obtain ⟨x, hx, rfl⟩ := List.mem_map.1 hr
 obtain ⟨i, hi, rfl⟩ := mem_edg.1 her
 have hg := (arE_zero.1 (chE_zero.1 (h x hx).1).1).2
 exact ⟨nx_gd hg (by omega) i, nx_gd hg (by omega) (i + 1)⟩
def endB (a b : (Int × Int) × (Int × Int)) : Bool := ((decide (a.1 = b.1) || decide (a.1 = b.2)) || decide (a.2 = b.1)) || decide (a.2 = b.2)
theorem endB_iff {a b : (Int × Int) × (Int × Int)} : endB a b = true ↔ a.1 = b.1 ∨ a.1 = b.2 ∨ a.2 = b.1 ∨ a.2 = b.2 := by
 unfold endB
 simp only [Bool.or_eq_true, decide_eq_true_eq, or_assoc]
def Ed (w : World) (A9 : Option Addr) (es : List ((Int × Int) × (Int × Int))) (A10 : Option Addr) (bs : List ((Int × Int) × (Int × Int))) (W : World) : Prop := Below w.heap.size w W ∧ Items W W.heap.size A9 encG es ∧ Items W W.heap.size A10 encG bs
section
variable {w W W' : World} {A9 A10 : Option Addr} {es bs : List ((Int × Int) × (Int × Int))}
theorem Ed.on (h : Ed w A9 es A10 bs W) (hB : Below W.heap.size W W') : Ed w A9 es A10 bs W' := ⟨h.1.trans (hB.mono h.1.size), h.2.1.on hB, h.2.2.on hB⟩
theorem Ed.alloc (h : Ed w A9 es A10 bs W) (ob : Obj) : Ed w A9 es A10 bs (W.alloc ob) := h.on ((Below.refl _ W).alloc (Nat.le_refl _) _)
theorem Ed.drew (h : Ed w A9 es A10 bs W) : Ed w A9 es A10 bs W.drew := h.on ⟨rfl, rfl, rfl, Nat.le_refl _, fun _ _ => rfl⟩
theorem Ed.drewN (h : Ed w A9 es A10 bs W) (n : Nat) : Ed w A9 es A10 bs (W.drewN n) := h.on ⟨rfl, rfl, rfl, Nat.le_refl _, fun _ _ => rfl⟩
theorem edge_cells {B : Nat} {A : Option Addr} {ad : Addr} {k : Nat} {e : (Int × Int) × (Int × Int)} (hA : A = some ad) (hr : Items W B A encG es) (he : es[k]? = some e) : W.cell? (ad.add (k * 4)) = some (.int .i64 e.1.1) ∧ W.cell? ⟨(ad.add (k * 4)).block, (ad.add (k * 4)).off + 1, none⟩ = some (.int .i64 e.1.2) ∧ W.cell? ⟨(ad.add (k * 4)).block, (ad.add (k * 4)).off + 2, none⟩ = some (.int .i64 e.2.1) ∧ W.cell? ⟨(ad.add (k * 4)).block, (ad.add (k * 4)).off + 3, none⟩ = some (.int .i64 e.2.2) := by
 have hlt : k < es.length := by
  by_cases h : k < es.length
  ·exact h
  ·rw [List.getElem?_eq_none (by omega)] at he; cases he
 obtain rfl : es[k] = e := by rw [List.getElem?_eq_getElem hlt] at he; exact Option.some.inj he
 obtain ⟨ad', e1, -, h0, hc⟩ := hr.at kindG.len hlt
 obtain rfl := Option.some.inj (hA.symm.trans e1)
 exact ⟨h0 _ (by decide) rfl, hc 1 _ (by decide) (by decide) rfl, hc 2 _ (by decide) (by decide) rfl, hc 3 _ (by decide) (by decide) rfl⟩
end
end Go.Proofs.YtjlnjjmomohpaaaGreat
