/- The document's own answers on plans, first part: At, In, Corner, SameParcel. -/
import Derived.Test.YtplbfiglkllljaaGreatRefPar
import Derived.Test.YtplbfiglkllljaaGreatRingP
namespace Go.Proofs.YtplbfiglkllljaaGreat
open Go.RowKit

section
variable {w W : World} {g : Nat} {t : TypeId} {x0 x1 x2 : Value} {L2 : List (Nat × Array Value × TypeId)}
theorem Hold.q3 (h : Hold w L2 W) (hm : (g, #[x0, x1, x2], t) ∈ L2) : W.cell? ⟨g, 0, none⟩ = some x0 ∧ W.cell? ⟨g, 1, none⟩ = some x1 ∧ W.cell? ⟨g, 2, none⟩ = some x2 := ⟨h.cell hm 0, h.cell hm 1, h.cell hm 2⟩
end
set_option maxRecDepth 100000 in
set_option maxHeartbeats 2000000 in
theorem ref_at (o : List (Int × Int)) (Ao : Option Addr) (co : Nat) (l : List PV) (Ap : Option Addr) (cp : Nat) (id : Int) (hn : l.length ≤ 1000000) (w : World) (hr : Prs w Ap l) :
    Calls Tryz.prog 18 #[.agg #[.slice Ao o.length co, .slice Ap l.length cp], .int .i64 id] w fun e' w' => ∃ n, e' = .returned (.int .i64 n) ∧ Plc (l.map fun x => x.par.id) id n ∧ Below w.heap.size w w' := by
  have HR := Lib.hid (fun K W (h : Hold w K W) => hr.on h.1)
  have HQ := (Hold.refl w).new #[.slice Ao o.length co, .slice Ap l.length cp] 26
  clear hr
  go_enter Tryz.func18, Tryz.ntmps18
  go_upto_region 1 with (fail)
  generalize (World.alloc _ _) = W1 at HQ ⊢
  obtain ⟨g0, hg0⟩ : ∃ g, w.heap.size = g := ⟨_, rfl⟩
  rw [hg0] at HQ ⊢
  have HG0 := Lib.hid hg0
  clear hg0
  go_wp2_with fail
  go_loopg [5] l.length (fun g i wr => ∃ k : Nat, k ≤ l.length ∧ g = l.length - k ∧ i = .int .i64 k ∧ (∀ j : Nat, j < k → (l.map fun x => x.par.id)[j]? ≠ some id) ∧ Hold w [(g0, #[.slice Ao o.length co, .slice Ap l.length cp], 26)] wr)
  case atStart => exact ⟨0, Nat.zero_le _, rfl, rfl, fun j hj => absurd hj (by omega), HQ⟩
  case round =>
    clear HQ
    obtain ⟨k, hk, hgk, rfl, hno, HB⟩ := hrel
    have HGK := Lib.hid hgk
    have HNO := Lib.hid hno
    clear hgk hno
    obtain ⟨c0, c1⟩ := HB.pt (.head _)
    by_cases hlt : k < l.length
    · obtain ⟨ad, rfl, -, d0, -, -⟩ := (HR.out _ _ HB).at hlt
      have HAT : Hid ((l.map fun x => x.par.id)[k]? = some l[k].par.id) := by unfold Hid; rw [List.getElem?_map, List.getElem?_eq_getElem hlt]; rfl
      have b0 : (0 : Int) ≤ (k : Int) := by omega
      have b1 : (k : Int) < (l.length : Int) := by omega
      generalize l[k].par.id = x at *
      by_cases h : x = id
      · have HP : Hid (Plc (l.map fun x => x.par.id) id k) := .inr ⟨k, rfl, by rw [HAT.out, h], HNO.out⟩
        have e1 : (x == id) = true := by simpa using h
        have HK := Lib.hid HB.1
        clear h HAT HNO HGK HB
        go_wp2
        go_ret
        exact ⟨_, rfl, HP.out, HK.out⟩
      · have HN : Hid (∀ j : Nat, j < k + 1 → (l.map fun x => x.par.id)[j]? ≠ some id) := fun j hj hh => by
          by_cases ej : j = k
          · subst ej; rw [HAT.out] at hh; exact h (Option.some.inj hh)
          · exact HNO.out j (by omega) hh
        have e1 : (x == id) = false := by simpa using h
        have HK := Lib.hid HB
        clear h HAT HNO HB
        go_wp2
        go_roundg (l.length - (k + 1))
        case measure => have := HGK.out; omega
        case rel => exact ⟨k + 1, by omega, rfl, by go_num, HN.out, HK.out⟩
    · obtain rfl : k = l.length := by omega
      have HP : Hid (Plc (l.map fun x => x.par.id) id (-1)) := .inl ⟨rfl, fun h => by
        obtain ⟨i, hi, he⟩ := List.getElem_of_mem h
        have hi' : i < l.length := by rw [List.length_map] at hi; exact hi
        exact HNO.out i hi' (by rw [List.getElem?_eq_getElem hi, he])⟩
      have HK := Lib.hid HB.1
      clear HB HNO HR
      go_wp2
      go_ret
      exact ⟨_, rfl, HP.out, HK.out⟩

theorem Prs.cells {w W : World} {A : Option Addr} {l : List PV} {ad : Addr} {k : Nat} {x : PV} (hA : A = some ad) (hr : Prs w A l) (hx : l[k]? = some x) (hB : Below w.heap.size w W) : W.cell? (ad.add (k * 3)) = some (.int .i64 x.par.id) ∧ W.cell? ⟨(ad.add (k * 3)).block, (ad.add (k * 3)).off + 1, none⟩ = some (.slice x.A x.par.ring.length x.cap) ∧ W.cell? ⟨(ad.add (k * 3)).block, (ad.add (k * 3)).off + 2, none⟩ = some (.string x.par.own) := by
  have hlt : k < l.length := by
    by_cases h : k < l.length
    · exact h
    · rw [List.getElem?_eq_none (by omega)] at hx; cases hx
  obtain rfl : l[k] = x := by rw [List.getElem?_eq_getElem hlt] at hx; exact Option.some.inj hx
  obtain ⟨ad', e, -, h0, h1, h2⟩ := (hr.on hB).at hlt
  obtain rfl := Option.some.inj (hA.symm.trans e)
  exact ⟨h0, h1, h2⟩
end Go.Proofs.YtplbfiglkllljaaGreat

/- The document's own answers on plans, second part: fine. -/
namespace Go.Proofs.YtplbfiglkllljaaGreat
open Go.RowKit

/-- How many corners the outer ring and the first parcels have; the number of the parcel ahead. -/
def cornN (o : List (Int × Int)) (l : List PV) : Nat → Nat
  | 0 => o.length
  | k + 1 => cornN o l k + (match l[k]? with | some x => x.par.ring.length | none => 0)
def lastI (l : List PV) : Nat → Int
  | 0 => 0
  | k + 1 => match l[k]? with | some x => x.par.id | none => 0
/-- The k-th parcel is fine behind those ahead of it. -/
def FineAt (o : List (Int × Int)) (l : List PV) (k : Nat) : Prop := ∀ x, l[k]? = some x → idB x.par.id = true ∧ lastI l k < x.par.id ∧ OwnOk x.par.own ∧ cornN o l (k + 1) ≤ 1024
def FineP (o : List (Int × Int)) (l : List PV) : Prop := (∀ k, k < l.length → FineAt o l k) ∧ 1 ≤ l.length ∧ l.length ≤ 64 ∧ cornN o l l.length ≤ 1024
theorem cornN_succ {o : List (Int × Int)} {l : List PV} {k : Nat} {x : PV} (h : l[k]? = some x) : cornN o l (k + 1) = cornN o l k + x.par.ring.length := by rw [cornN, h]
theorem lastI_succ {l : List PV} {k : Nat} {x : PV} (h : l[k]? = some x) : lastI l (k + 1) = x.par.id := by rw [lastI, h]

end Go.Proofs.YtplbfiglkllljaaGreat
