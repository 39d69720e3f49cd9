/- The document's own answers on plans, first part: At, In, Corner, SameParcel. -/
import Derived.Test.YtmjgbjebiiecmaaGreatRefPar
import Derived.Test.YtmjgbjebiiecmaaGreatRingP
namespace Go.Proofs.YtmjgbjebiiecmaaGreat
open Go.RowKit

section
variable {w W : World} {g : Nat} {t : TypeId} {x0 x1 x2 : Value} {L2 : List (Nat × Array Value × TypeId)}
theorem Hold.q3 (h : Hold w L2 W) (hm : (g, #[x0, x1, x2], t) ∈ L2) : W.cell? ⟨g, 0, none⟩ = some x0 ∧ W.cell? ⟨g, 1, none⟩ = some x1 ∧ W.cell? ⟨g, 2, none⟩ = some x2 := ⟨h.cell hm 0, h.cell hm 1, h.cell hm 2⟩
end
set_option maxRecDepth 100000 in
set_option maxHeartbeats 2000000 in
theorem ref_at (o : List (Int × Int)) (Ao : Option Addr) (co : Nat) (l : List PV) (Ap : Option Addr) (cp : Nat) (id : Int) (hn : l.length ≤ 1000000) (w : World) (hr : Prs w Ap l) :
    Calls Tryz.prog 20 #[.agg #[.slice Ao o.length co, .slice Ap l.length cp], .int .i64 id] w fun e' w' => ∃ n, e' = .returned (.int .i64 n) ∧ Plc (l.map fun x => x.par.id) id n ∧ Below w.heap.size w w' := by
  have HR := Lib.hid (fun K W (h : Hold w K W) => hr.on h.1)
  have HQ := (Hold.refl w).new #[.slice Ao o.length co, .slice Ap l.length cp] 26
  clear hr
  go_enter Tryz.func20, Tryz.ntmps20
  go_upto_region 1 with (fail)
  generalize (World.alloc _ _) = W1 at HQ ⊢
  obtain ⟨g0, hg0⟩ : ∃ g, w.heap.size = g := ⟨_, rfl⟩
  rw [hg0] at HQ ⊢
  have HG0 := Lib.hid hg0
  clear hg0
  go_wp2_with fail
  go_loopg [5] l.length (fun g i wr => ∃ k : Nat, k ≤ l.length ∧ g = l.length - k ∧ i = .int .i64 k ∧ (∀ j : Nat, j < k → (l.map fun x => x.par.id)[j]? ≠ some id) ∧ Hold w [(g0, #[.slice Ao o.length co, .slice Ap l.length cp], 26)] wr)
  case atStart => exact ⟨0, Nat.zero_le _, rfl, rfl, fun j hj => absurd hj (by omega), HQ⟩
  case round =>
    clear HQ
    obtain ⟨k, hk, hgk, rfl, hno, HB⟩ := hrel
    have HGK := Lib.hid hgk
    have HNO := Lib.hid hno
    clear hgk hno
    obtain ⟨c0, c1⟩ := HB.pt (.head _)
    by_cases hlt : k < l.length
    · obtain ⟨ad, rfl, -, d0, -, -⟩ := (HR.out _ _ HB).at hlt
      have HAT : Hid ((l.map fun x => x.par.id)[k]? = some l[k].par.id) := by unfold Hid; rw [List.getElem?_map, List.getElem?_eq_getElem hlt]; rfl
      have b0 : (0 : Int) ≤ (k : Int) := by omega
      have b1 : (k : Int) < (l.length : Int) := by omega
      generalize l[k].par.id = x at *
      by_cases h : x = id
      · have HP : Hid (Plc (l.map fun x => x.par.id) id k) := .inr ⟨k, rfl, by rw [HAT.out, h], HNO.out⟩
        have e1 : (x == id) = true := by simpa using h
        have HK := Lib.hid HB.1
        clear h HAT HNO HGK HB
        go_wp2
        go_ret
        exact ⟨_, rfl, HP.out, HK.out⟩
      · have HN : Hid (∀ j : Nat, j < k + 1 → (l.map fun x => x.par.id)[j]? ≠ some id) := fun j hj hh => by
          by_cases ej : j = k
          · subst ej; rw [HAT.out] at hh; exact h (Option.some.inj hh)
          · exact HNO.out j (by omega) hh
        have e1 : (x == id) = false := by simpa using h
        have HK := Lib.hid HB
        clear h HAT HNO HB
        go_wp2
        go_roundg (l.length - (k + 1))
        case measure => have := HGK.out; omega
        case rel => exact ⟨k + 1, by omega, rfl, by go_num, HN.out, HK.out⟩
    · obtain rfl : k = l.length := by omega
      have HP : Hid (Plc (l.map fun x => x.par.id) id (-1)) := .inl ⟨rfl, fun h => by
        obtain ⟨i, hi, he⟩ := List.getElem_of_mem h
        have hi' : i < l.length := by rw [List.length_map] at hi; exact hi
        exact HNO.out i hi' (by rw [List.getElem?_eq_getElem hi, he])⟩
      have HK := Lib.hid HB.1
      clear HB HNO HR
      go_wp2
      go_ret
      exact ⟨_, rfl, HP.out, HK.out⟩

theorem Prs.cells {w W : World} {A : Option Addr} {l : List PV} {ad : Addr} {k : Nat} {x : PV} (hA : A = some ad) (hr : Prs w A l) (hx : l[k]? = some x) (hB : Below w.heap.size w W) : W.cell? (ad.add (k * 3)) = some (.int .i64 x.par.id) ∧ W.cell? ⟨(ad.add (k * 3)).block, (ad.add (k * 3)).off + 1, none⟩ = some (.slice x.A x.par.ring.length x.cap) ∧ W.cell? ⟨(ad.add (k * 3)).block, (ad.add (k * 3)).off + 2, none⟩ = some (.string x.par.own) := by
  have hlt : k < l.length := by
    by_cases h : k < l.length
    · exact h
    · rw [List.getElem?_eq_none (by omega)] at hx; cases hx
  obtain rfl : l[k] = x := by rw [List.getElem?_eq_getElem hlt] at hx; exact Option.some.inj hx
  obtain ⟨ad', e, -, h0, h1, h2⟩ := (hr.on hB).at hlt
  obtain rfl := Option.some.inj (hA.symm.trans e)
  exact ⟨h0, h1, h2⟩
set_option maxRecDepth 100000 in
set_option maxHeartbeats 2000000 in
theorem ref_normed (ps : List (Int × Int)) (A : Option Addr) (cap : Nat) (hn : ps.length ≤ maxLen) (hb : ps.length ≤ 1000000000) (w : World) (hr : Pts w w.heap.size A ps) :
    Calls Tryz.prog 56 #[.slice A ps.length cap] w fun e' w' => ∃ b, e' = .returned (.bool b) ∧ (b = true ↔ chE ps = 0 ∧ ps = rotL ps (leastI ps ps.length)) ∧ Below w.heap.size w w' := by
  have HC := Lib.hid (ref_check ps A cap hn w hr)
  have HR := Lib.hid hr
  have HN := Lib.hid hn
  have HBB := Lib.hid hb
  clear hr hn hb
  go_enter Tryz.func56, Tryz.ntmps56
  go_wp2_with fail
  go_at_call 88
  refine HC.out.mono ?_
  rintro e w1 ⟨rfl, hB⟩
  by_cases h : chE ps = 0
  · have e1 : (chE ps == 0) = true := by simpa using h
    have HH := Lib.hid h
    have HK := Lib.hid hB
    clear hB h
    have HL := Lib.hid (fun W (h : Below w.heap.size w W) => ref_least ps A cap HBB.out W (HR.out.on h))
    go_wp2_with fail
    go_at_call 89
    refine (HL.out _ HK.out).mono ?_
    rintro e w2 ⟨v, rfl, HV⟩
    obtain ⟨A1, c1, rfl, hp1⟩ := HV.pts
    have HB2 := Lib.hid (HK.out.trans (HV.1.mono HK.out.size))
    have hlr : (rotL ps (leastI ps ps.length)).length = ps.length := by rw [rotL_length]
    have HSM := Lib.hid (ref_same ps _ A A1 cap c1 HN.out _ (HR.out.on HB2.out) hp1)
    clear HV hp1 hlr HL
    generalize hq : rotL ps (leastI ps ps.length) = qs at *
    have HQS := Lib.hid hq
    clear hq
    go_wp2_with fail
    go_at_call 29
    refine HSM.out.mono ?_
    rintro e w3 ⟨rfl, hB⟩
    have HB3 := Lib.hid (HB2.out.trans (hB.mono HB2.out.size))
    clear hB HSM HB2
    go_wp2
    go_ret
    exact ⟨_, rfl, by rw [decide_eq_true_eq, HQS.out]; exact ⟨fun h => ⟨HH.out, h⟩, fun h => h.2⟩, HB3.out⟩
  · have e1 : (chE ps == 0) = false := by simpa using h
    have HH := Lib.hid h
    have HK := Lib.hid hB
    clear hB h
    go_wp2
    go_ret
    exact ⟨false, rfl, ⟨fun h => (by cases h), fun h => absurd h.1 HH.out⟩, HK.out⟩
end Go.Proofs.YtmjgbjebiiecmaaGreat

/- The document's own answers on plans, second part: fine. -/
namespace Go.Proofs.YtmjgbjebiiecmaaGreat
open Go.RowKit

/-- How many corners the outer ring and the first parcels have; the number of the parcel ahead. -/
def cornN (o : List (Int × Int)) (l : List PV) : Nat → Nat
  | 0 => o.length
  | k + 1 => cornN o l k + (match l[k]? with | some x => x.par.ring.length | none => 0)
def lastI (l : List PV) : Nat → Int
  | 0 => 0
  | k + 1 => match l[k]? with | some x => x.par.id | none => 0
/-- The k-th parcel is fine behind those ahead of it. -/
def FineAt (o : List (Int × Int)) (l : List PV) (k : Nat) : Prop := ∀ x, l[k]? = some x → idB x.par.id = true ∧ lastI l k < x.par.id ∧ OwnOk x.par.own ∧ cornN o l (k + 1) ≤ 1024
def FineP (o : List (Int × Int)) (l : List PV) : Prop := (∀ k, k < l.length → FineAt o l k) ∧ 1 ≤ l.length ∧ l.length ≤ 64 ∧ cornN o l l.length ≤ 1024
noncomputable def fineB (o : List (Int × Int)) (l : List PV) : Bool := @decide (FineP o l) (Classical.propDecidable _)
theorem fineB_iff {o : List (Int × Int)} {l : List PV} : fineB o l = true ↔ FineP o l := by unfold fineB; exact @decide_eq_true_iff _ (Classical.propDecidable _)
theorem fineB_not {o : List (Int × Int)} {l : List PV} : fineB o l = false ↔ ¬ FineP o l := by rw [← fineB_iff, Bool.not_eq_true]
theorem cornN_succ {o : List (Int × Int)} {l : List PV} {k : Nat} {x : PV} (h : l[k]? = some x) : cornN o l (k + 1) = cornN o l k + x.par.ring.length := by rw [cornN, h]
theorem lastI_succ {l : List PV} {k : Nat} {x : PV} (h : l[k]? = some x) : lastI l (k + 1) = x.par.id := by rw [lastI, h]

set_option maxRecDepth 100000 in
set_option maxHeartbeats 8000000 in
theorem ref_fine (o : List (Int × Int)) (Ao : Option Addr) (co : Nat) (l : List PV) (Ap : Option Addr) (cp : Nat) (hn : l.length ≤ 1000000) (ho : o.length ≤ 1000000000000) (hown : ∀ x ∈ l, x.par.own.size ≤ maxLen) (w : World) (hr : Prs w Ap l) :
    Calls Tryz.prog 55 #[.agg #[.slice Ao o.length co, .slice Ap l.length cp]] w fun e' w' => e' = .returned (.bool (fineB o l)) ∧ Below w.heap.size w w' := by
  have HR := Lib.hid (fun K W (h : Hold w K W) => hr.on h.1)
  have HO := Lib.hid hown
  have HLO := Lib.hid ho
  have HQ := (Hold.refl w).new #[.slice Ao o.length co, .slice Ap l.length cp] 26
  clear hr hown ho
  go_enter Tryz.func55, Tryz.ntmps55
  go_upto_region 1 with (fail)
  generalize (World.alloc _ _) = W1 at HQ ⊢
  obtain ⟨g0, hg0⟩ : ∃ g, w.heap.size = g := ⟨_, rfl⟩
  rw [hg0] at HQ ⊢
  have HG0 := Lib.hid hg0
  clear hg0
  obtain ⟨c0, c1⟩ := HQ.pt (.head _)
  go_wp2_with fail
  go_loopg [3, 4, 5] l.length (fun g n la i wr => ∃ k : Nat, k ≤ l.length ∧ g = l.length - k ∧ i = .int .i64 k ∧ n = .int .i64 (cornN o l k) ∧ la = .int .i64 (lastI l k) ∧ (0 < k → cornN o l k ≤ 1024) ∧ (∀ j, j < k → FineAt o l j) ∧ Hold w [(g0, #[.slice Ao o.length co, .slice Ap l.length cp], 26)] wr)
  case atStart => exact ⟨0, Nat.zero_le _, rfl, rfl, rfl, rfl, fun h => absurd h (by omega), fun j hj => absurd hj (by omega), HQ⟩
  case round =>
    clear HQ c0 c1
    obtain ⟨k, hk, hgk, rfl, rfl, rfl, hlim, hno, HB⟩ := hrel
    have HGK := Lib.hid hgk
    have HNO := Lib.hid hno
    clear hgk hno
    obtain ⟨c0, c1⟩ := HB.pt (.head _)
    by_cases hlt : k < l.length
    · have hw := HR.out _ _ HB
      obtain ⟨ad, rfl, -, d0, d1, d2⟩ := hw.at hlt
      have hsz := (hw.2 l[k] (List.getElem_mem hlt)).2.2
      have hx : l[k]? = some l[k] := List.getElem?_eq_getElem hlt
      have hs1 := cornN_succ (o := o) hx
      have hs2 := lastI_succ hx
      have HXK := Lib.hid hx
      have hlo := HLO.out
      have hcl : cornN o l k ≤ 1000000000000 := by
        by_cases h0 : 0 < k
        · have := hlim h0; omega
        · obtain rfl : k = 0 := by omega
          exact hlo
      have HOK := Lib.hid (fun W => ref_owner l[k].par.own (HO.out _ (List.getElem_mem hlt)) W)
      have HID := Lib.hid (fun W => ref_id l[k].par.id W)
      have HBAD : Hid (¬ (idB l[k].par.id = true ∧ lastI l k < l[k].par.id ∧ OwnOk l[k].par.own ∧ cornN o l k + l[k].par.ring.length ≤ 1024) → fineB o l = false) := fun h => fineB_not.2 fun hf => h (by rw [← hs1]; exact hf.1 k hlt _ hx)
      have HNX : Hid (idB l[k].par.id = true ∧ lastI l k < l[k].par.id ∧ OwnOk l[k].par.own ∧ cornN o l k + l[k].par.ring.length ≤ 1024 → ∀ j, j < k + 1 → FineAt o l j) := fun h j hj => by
        by_cases e : j = k
        · subst e
          intro y hy
          obtain rfl := Option.some.inj (hx.symm.trans hy)
          rw [hs1]; exact h
        · exact HNO.out j (by omega)
      have HS1 := Lib.hid hs1
      have HS2 := Lib.hid hs2
      have b0 : (0 : Int) ≤ (k : Int) := by omega
      have b1 : (k : Int) < (l.length : Int) := by omega
      have w1 := wrap_in (n := (cornN o l k : Int) + (l[k].par.ring.length : Int)) (by omega) (by omega)
      clear hw hx hs1 hs2 hsz hlo hcl hlim HNO
      generalize l[k].A = Ak at *
      generalize l[k].cap = ck at *
      generalize l[k].par = x at *
      generalize cornN o l k = n0 at *
      generalize lastI l k = la at *
      have HB1 := HB.new #[.int .i64 x.id, .slice Ak x.ring.length ck, .string x.own] 40
      go_upto_region 7 with (fail)
      generalize (World.alloc wr _) = W4 at HB1 ⊢
      generalize wr.heap.size = g6 at HB1 ⊢
      clear c0 c1 d0 d1 d2 HB
      obtain ⟨f0, f1, f2⟩ := HB1.q3 List.mem_cons_self
      by_cases h1 : idB x.id = true
      · by_cases h2 : x.id ≤ la
        · have HE := Lib.hid (HBAD.out fun h => by omega)
          rw [h1] at HID
          clear HBAD HNX HOK
          go_wp2_with (go_at_call 46; go_must ((with_reducible refine (HID.out _).mono ?_); rintro e w' ⟨rfl, hB⟩; replace HB1 := HB1.on hB; clear hB f0 f1 f2; obtain ⟨f0, f1, f2⟩ := HB1.q3 List.mem_cons_self))
          go_ret
          rw [HE.out]
          exact ⟨rfl, HB1.1⟩
        · by_cases h3 : OwnOk x.own
          · rw [h1] at HID
            rw [owB_iff.2 h3] at HOK
            by_cases h4 : n0 + x.ring.length ≤ 1024
            · have h4' : ¬ (1024 : Int) < (n0 : Int) + (x.ring.length : Int) := by omega
              have HN := Lib.hid (HNX.out ⟨h1, by omega, h3, h4⟩)
              have HL4 : Hid (cornN o l (k + 1) ≤ 1024) := by unfold Hid; rw [HS1.out]; exact h4
              clear HBAD HNX h3 h4 h1
              go_wp2_with (first
                | (go_at_call 46; go_must ((with_reducible refine (HID.out _).mono ?_); rintro e w' ⟨rfl, hB⟩; replace HB1 := HB1.on hB; clear hB f0 f1 f2; obtain ⟨f0, f1, f2⟩ := HB1.q3 List.mem_cons_self))
                | (go_at_call 87; go_must ((with_reducible refine (HOK.out _).mono ?_); rintro e w' ⟨rfl, hB⟩; replace HB1 := HB1.on hB; clear hB f0 f1 f2; obtain ⟨f0, f1, f2⟩ := HB1.q3 List.mem_cons_self)))
              go_roundg (l.length - (k + 1))
              case measure => have := HGK.out; omega
              case rel => exact ⟨k + 1, by omega, rfl, by go_num, by rw [HS1.out]; go_num, by rw [HS2.out], fun _ => HL4.out, HN.out, HB1.tail⟩
            · have h4' : (1024 : Int) < (n0 : Int) + (x.ring.length : Int) := by omega
              have HE := Lib.hid (HBAD.out fun h => h4 h.2.2.2)
              clear HBAD HNX h3 h4 h1
              go_wp2_with (first
                | (go_at_call 46; go_must ((with_reducible refine (HID.out _).mono ?_); rintro e w' ⟨rfl, hB⟩; replace HB1 := HB1.on hB; clear hB f0 f1 f2; obtain ⟨f0, f1, f2⟩ := HB1.q3 List.mem_cons_self))
                | (go_at_call 87; go_must ((with_reducible refine (HOK.out _).mono ?_); rintro e w' ⟨rfl, hB⟩; replace HB1 := HB1.on hB; clear hB f0 f1 f2; obtain ⟨f0, f1, f2⟩ := HB1.q3 List.mem_cons_self)))
              go_ret
              rw [HE.out]
              exact ⟨rfl, HB1.1⟩
          · rw [h1] at HID
            rw [owB_not.2 h3] at HOK
            have HE := Lib.hid (HBAD.out fun h => h3 h.2.2.1)
            clear HBAD HNX h3 h1
            go_wp2_with (first
              | (go_at_call 46; go_must ((with_reducible refine (HID.out _).mono ?_); rintro e w' ⟨rfl, hB⟩; replace HB1 := HB1.on hB; clear hB f0 f1 f2; obtain ⟨f0, f1, f2⟩ := HB1.q3 List.mem_cons_self))
              | (go_at_call 87; go_must ((with_reducible refine (HOK.out _).mono ?_); rintro e w' ⟨rfl, hB⟩; replace HB1 := HB1.on hB; clear hB f0 f1 f2; obtain ⟨f0, f1, f2⟩ := HB1.q3 List.mem_cons_self)))
            go_ret
            rw [HE.out]
            exact ⟨rfl, HB1.1⟩
      · have HE := Lib.hid (HBAD.out fun h => h1 h.1)
        rw [Bool.not_eq_true] at h1
        rw [h1] at HID
        clear HBAD HNX HOK
        go_wp2_with (go_at_call 46; go_must ((with_reducible refine (HID.out _).mono ?_); rintro e w' ⟨rfl, hB⟩; replace HB1 := HB1.on hB; clear hB f0 f1 f2; obtain ⟨f0, f1, f2⟩ := HB1.q3 List.mem_cons_self))
        go_ret
        rw [HE.out]
        exact ⟨rfl, HB1.1⟩
    · obtain rfl : k = l.length := by omega
      have HE : Hid (fineB o l = (decide (1 ≤ l.length) && decide (l.length ≤ 64) && decide (cornN o l l.length ≤ 1024))) := by
        unfold Hid
        rw [Bool.eq_iff_iff, fineB_iff, Bool.and_eq_true, Bool.and_eq_true, decide_eq_true_eq, decide_eq_true_eq, decide_eq_true_eq]
        exact ⟨fun h => ⟨⟨h.2.1, h.2.2.1⟩, h.2.2.2⟩, fun h => ⟨HNO.out, h.1.1, h.1.2, h.2⟩⟩
      have HK := Lib.hid HB.1
      clear HB HNO HR hlim
      generalize cornN o l l.length = n0 at *
      by_cases h1 : 1 ≤ l.length
      · have h1' : (1 : Int) ≤ (l.length : Int) := by omega
        by_cases h2 : l.length ≤ 64
        · have h2' : (l.length : Int) ≤ 64 := by omega
          by_cases h3 : n0 ≤ 1024
          · have h3' : (n0 : Int) ≤ 1024 := by omega
            rw [decide_eq_true h1, decide_eq_true h2, decide_eq_true h3] at HE
            go_wp2
            go_ret
            rw [HE.out]
            first | exact ⟨rfl, HK.out⟩ | exact ⟨by simp only [decide_true, decide_false, Bool.true_and, Bool.false_and, Bool.and_true, Bool.and_false]; rfl, HK.out⟩ | exact ⟨by simp, HK.out⟩
          · have h3' : ¬ (n0 : Int) ≤ 1024 := by omega
            rw [decide_eq_true h1, decide_eq_true h2, decide_eq_false h3] at HE
            go_wp2
            go_ret
            rw [HE.out]
            first | exact ⟨rfl, HK.out⟩ | exact ⟨by simp only [decide_true, decide_false, Bool.true_and, Bool.false_and, Bool.and_true, Bool.and_false]; rfl, HK.out⟩ | exact ⟨by simp, HK.out⟩
        · have h2' : ¬ (l.length : Int) ≤ 64 := by omega
          rw [decide_eq_true h1, decide_eq_false h2] at HE
          go_wp2
          go_ret
          rw [HE.out]
          first | exact ⟨rfl, HK.out⟩ | exact ⟨by simp only [decide_true, decide_false, Bool.true_and, Bool.false_and, Bool.and_true, Bool.and_false]; rfl, HK.out⟩ | exact ⟨by simp, HK.out⟩
      · have h1' : ¬ (1 : Int) ≤ (l.length : Int) := by omega
        rw [decide_eq_false h1] at HE
        go_wp2
        go_ret
        rw [HE.out]
        first | exact ⟨rfl, HK.out⟩ | exact ⟨by simp only [decide_true, decide_false, Bool.true_and, Bool.false_and, Bool.and_true, Bool.and_false]; rfl, HK.out⟩ | exact ⟨by simp, HK.out⟩
end Go.Proofs.YtmjgbjebiiecmaaGreat
