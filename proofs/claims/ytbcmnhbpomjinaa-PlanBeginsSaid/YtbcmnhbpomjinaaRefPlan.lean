/- The document's own answers on plans, first part: At, In, Corner, SameParcel. -/
import Derived.Test.YtbcmnhbpomjinaaRefPar
import Derived.Test.YtbcmnhbpomjinaaRingW
namespace Go.Proofs.Ytbcmnhbpomjinaa
open Go.RowKit

section
variable {w W : World} {g : Nat} {t : TypeId} {x0 x1 x2 : Value} {L2 : List (Nat × Array Value × TypeId)}
theorem Hold.q3 (h : Hold w L2 W) (hm : (g, #[x0, x1, x2], t) ∈ L2) : W.cell? ⟨g, 0, none⟩ = some x0 ∧ W.cell? ⟨g, 1, none⟩ = some x1 ∧ W.cell? ⟨g, 2, none⟩ = some x2 := ⟨h.cell hm 0, h.cell hm 1, h.cell hm 2⟩
end
/-- Whether a point is a corner of a parcel. -/
noncomputable def cornB (l : List PV) (p : Int × Int) : Bool := @decide (∃ x ∈ l, p ∈ x.par.ring) (Classical.propDecidable _)
theorem cornB_iff {l : List PV} {p : Int × Int} : cornB l p = true ↔ ∃ x ∈ l, p ∈ x.par.ring := by unfold cornB; exact @decide_eq_true_iff _ (Classical.propDecidable _)
theorem cornB_not {l : List PV} {p : Int × Int} : cornB l p = false ↔ ¬ ∃ x ∈ l, p ∈ x.par.ring := by rw [← cornB_iff, Bool.not_eq_true]
theorem Prs.cells {w W : World} {A : Option Addr} {l : List PV} {ad : Addr} {k : Nat} {x : PV} (hA : A = some ad) (hr : Prs w A l) (hx : l[k]? = some x) (hB : Below w.heap.size w W) : W.cell? (ad.add (k * 3)) = some (.int .i64 x.par.id) ∧ W.cell? ⟨(ad.add (k * 3)).block, (ad.add (k * 3)).off + 1, none⟩ = some (.slice x.A x.par.ring.length x.cap) ∧ W.cell? ⟨(ad.add (k * 3)).block, (ad.add (k * 3)).off + 2, none⟩ = some (.string x.par.own) := by
  have hlt : k < l.length := by
    by_cases h : k < l.length
    · exact h
    · rw [List.getElem?_eq_none (by omega)] at hx; cases hx
  obtain rfl : l[k] = x := by rw [List.getElem?_eq_getElem hlt] at hx; exact Option.some.inj hx
  obtain ⟨ad', e, -, h0, h1, h2⟩ := (hr.on hB).at hlt
  obtain rfl := Option.some.inj (hA.symm.trans e)
  exact ⟨h0, h1, h2⟩
/-- Two parcels are the same. -/
def parEq (a b : Par) : Prop := a.id = b.id ∧ a.own = b.own ∧ a.ring = b.ring
set_option maxRecDepth 100000 in
set_option maxHeartbeats 2000000 in
theorem ref_normed (ps : List (Int × Int)) (A : Option Addr) (cap : Nat) (hn : ps.length ≤ maxLen) (hb : ps.length ≤ 1000000000) (w : World) (hr : Pts w w.heap.size A ps) :
    Calls Try.prog 21 #[.slice A ps.length cap] w fun e' w' => ∃ b, e' = .returned (.bool b) ∧ (b = true ↔ chE ps = 0 ∧ ps = rotL ps (leastI ps ps.length)) ∧ Below w.heap.size w w' := by
  have HC := Lib.hid (ref_check ps A cap hn w hr)
  have HR := Lib.hid hr
  have HN := Lib.hid hn
  have HBB := Lib.hid hb
  clear hr hn hb
  go_enter Try.func21, Try.ntmps21
  go_wp2_with fail
  go_at_call 11
  refine HC.out.mono ?_
  rintro e w1 ⟨rfl, hB⟩
  by_cases h : chE ps = 0
  · have e1 : (chE ps == 0) = true := by simpa using h
    have HH := Lib.hid h
    have HK := Lib.hid hB
    clear hB h
    have HL := Lib.hid (fun W (h : Below w.heap.size w W) => ref_least ps A cap HBB.out W (HR.out.on h))
    go_wp2_with fail
    go_at_call 15
    refine (HL.out _ HK.out).mono ?_
    rintro e w2 ⟨v, rfl, HV⟩
    obtain ⟨A1, c1, rfl, hp1⟩ := HV.pts
    have HB2 := Lib.hid (HK.out.trans (HV.1.mono HK.out.size))
    have hlr : (rotL ps (leastI ps ps.length)).length = ps.length := by rw [rotL_length]
    have HSM := Lib.hid (ref_same ps _ A A1 cap c1 HN.out _ (HR.out.on HB2.out) hp1)
    clear HV hp1 hlr HL
    generalize hq : rotL ps (leastI ps ps.length) = qs at *
    have HQS := Lib.hid hq
    clear hq
    go_wp2_with fail
    go_at_call 35
    refine HSM.out.mono ?_
    rintro e w3 ⟨rfl, hB⟩
    have HB3 := Lib.hid (HB2.out.trans (hB.mono HB2.out.size))
    clear hB HSM HB2
    go_wp2
    go_ret
    exact ⟨_, rfl, by rw [decide_eq_true_eq, HQS.out]; exact ⟨fun h => ⟨HH.out, h⟩, fun h => h.2⟩, HB3.out⟩
  · have e1 : (chE ps == 0) = false := by simpa using h
    have HH := Lib.hid h
    have HK := Lib.hid hB
    clear hB h
    go_wp2
    go_ret
    exact ⟨false, rfl, ⟨fun h => (by cases h), fun h => absurd h.1 HH.out⟩, HK.out⟩
end Go.Proofs.Ytbcmnhbpomjinaa
