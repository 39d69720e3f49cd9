/- The program's onEdge: whether a point lies on an edge of some parcel. -/
import Derived.Test.YtfjfmieadedjoaaBendA
import Derived.Test.YtfjfmieadedjoaaPlanB
import Derived.Test.YtfjfmieadedjoaaRefLeast
import Derived.Test.YtfjfmieadedjoaaLeft
namespace Go.Proofs.Ytfjfmieadedjoaa
open Go.RowKit

def onE (r : List (Int × Int)) (p : Int × Int) : Bool := (List.range r.length).any fun k => onB (nx r k) (nx r (k + 1)) p
theorem onE_yes {r : List (Int × Int)} {p : Int × Int} {k : Nat} (hk : k < r.length) (h : onB (nx r k) (nx r (k + 1)) p = true) : onE r p = true := List.any_eq_true.2 ⟨k, List.mem_range.2 hk, h⟩
theorem onE_no {r : List (Int × Int)} {p : Int × Int} (h : ∀ j, j < r.length → onB (nx r j) (nx r (j + 1)) p = false) : onE r p = false := by
 rw [onE, List.any_eq_false]
 intro k hk
 rw [h k (List.mem_range.1 hk)]
 decide
set_option maxRecDepth 100000 in
set_option maxHeartbeats 2000000 in
theorem onE1_any (x : Par) (A : Option Addr) (c : Nat) (p : Int × Int) (g3 : Nat) (hg : gdL x.ring = true) (hp : Gd p) (hn : x.ring.length ≤ 1000) (w : World) (hr : Pts w w.heap.size A x.ring) (hc : w.heap[g3]? = some (.cells #[.int .i64 p.1, .int .i64 p.2] 28 (0, 0))) :
  Calls Try.prog 30 #[.agg #[.int .i64 x.id, .slice A x.ring.length c, .string x.own], .pointer (some ⟨g3, 0, none⟩)] w fun e w' => e = .returned (.bool (onE x.ring p)) ∧ Below w.heap.size w w' := by
 have HQ := (Hold.refl w).new #[.int .i64 x.id, .slice A x.ring.length c, .string x.own] 39
 have HEW := Lib.hid (edgeWith_any x.ring A c p hg hp hn _ (hr.on HQ.1))
 have hc2 := (HQ.1.block _ (blk_lt hc)).trans hc
 obtain ⟨d0, d1⟩ : ∃ y0 y1, y0 = y1 := ⟨(0 : Nat), 0, rfl⟩
 clear d1 d0
 have d0 := blk_cell hc2 0
 have d1 := blk_cell hc2 1
 simp only [List.getElem?_toArray, List.getElem?_cons_zero, List.getElem?_cons_succ] at d0 d1
 go_enter Try.func30, Try.ntmps30
 go_upto_region 1 with (fail)
 generalize (World.alloc _ _) = W1 at HQ HEW d0 d1 hc2 ⊢
 generalize w.heap.size = g2 at HQ
 obtain ⟨-, k1, -⟩ := HQ.q3 (.head _)
 have HQX := Lib.hid HQ
 clear HQ hr hc hc2
 go_wp2_with fail
 go_at_call 20
 refine HEW.out.mono ?_
 clear HEW
 rintro e' W2 ⟨⟨k, hk, ho, rfl⟩ | ⟨hno, rfl⟩, hB⟩
 ·have HE := Lib.hid (onE_yes hk ho)
  have HB := Lib.hid (HQX.out.on hB).1
  generalize nx x.ring k = a at *
  generalize nx x.ring (k + 1) = b at *
  clear hB ho hk
  go_wp2
  go_ret
  rw [HE.out]
  exact ⟨rfl, HB.out.alloc HB.out.size _⟩
 ·have HE := Lib.hid (onE_no hno)
  have HB := Lib.hid (HQX.out.on hB).1
  clear hB hno
  go_wp2
  go_ret
  rw [HE.out]
  exact ⟨rfl, HB.out.alloc HB.out.size _⟩
set_option maxRecDepth 100000 in
set_option maxHeartbeats 2000000 in
theorem idxE_any (l : List PV) (Ap : Option Addr) (cp : Nat) (p : Int × Int) (g3 : Nat) (hn : l.length ≤ 1000000) (hp : Gd p) (hgr : ∀ x ∈ l, gdL x.par.ring = true ∧ x.par.ring.length ≤ 1000) (w : World) (hr : Prs w Ap l) (hc : w.heap[g3]? = some (.cells #[.int .i64 p.1, .int .i64 p.2] 28 (0, 0))) :
  Calls Try.prog 39 #[.slice Ap l.length cp, .func (.func 30) #[] #[.pointer (some ⟨g3, 0, none⟩)]] w fun e w' => ∃ i : Int, e = .returned (.int .i64 i) ∧ Below w.heap.size w w' ∧ (0 ≤ i ↔ ∃ x ∈ l, onE x.par.ring p = true) := by
 have HS : Hid (l.length ≤ 1000000) := hn
 have HR := Lib.hid hr
 have HC := Lib.hid (fun x (hx : x ∈ l) W (hb : Below w.heap.size w W) => onE1_any x.par x.A x.cap p g3 (hgr x hx).1 hp (hgr x hx).2 W ((hr.2 x hx).1.on hb) ((hb.block _ (blk_lt hc)).trans hc))
 have HB0 := Below.refl w.heap.size w
 clear hr hc hn hgr hp
 go_enter Try.func39, Try.ntmps39
 go_wp2_with fail
 go_loopg [8] l.length (fun gg i wr => ∃ k : Nat, k ≤ l.length ∧ gg = l.length - k ∧ i = .int .i64 k ∧ (∀ x ∈ l.take k, onE x.par.ring p = false) ∧ Below w.heap.size w wr)
 case atStart => exact ⟨0, Nat.zero_le _, rfl, rfl, fun x hx => by simp at hx, HB0⟩
 case round =>
  clear HB0
  obtain ⟨k, hk, hgk, rfl, hno, hB⟩ := hrel
  have HGK := Lib.hid hgk
  have HNO := Lib.hid hno
  have HB := Lib.hid hB
  clear hgk hno
  by_cases hlt : k < l.length
  ·have b0 : (0 : Int) ≤ (k : Int) := by omega
   have b1 : (k : Int) < (l.length : Int) := by omega
   have hws : IntKind.i64.wrap ((k : Int) + 1) = (k : Int) + 1 := by have := HS.out; rw [IntKind.wrap_i64]; omega
   obtain ⟨ad, hA, -, d0, d1, d2⟩ := (HR.out.on hB).at hlt
   have HX : Hid (l[k] ∈ l) := List.getElem_mem hlt
   have HGN : Hid (onE l[k].par.ring p = false → ∀ x ∈ l.take (k + 1), onE x.par.ring p = false) := fun h x hx => by
    rw [List.take_succ_eq_append_getElem hlt, List.mem_append, List.mem_singleton] at hx
    rcases hx with hx | rfl
    ·exact HNO.out x hx
    ·exact h
   have HRX := Lib.hid HR.out
   have HC1 := Lib.hid (HC.out l[k] (List.getElem_mem hlt) wr HB.out)
   clear HR hB
   subst hA
   generalize l[k] = x at *
   have HCC := Lib.hid HC.out
   clear HC
   cases hid : onE x.par.ring p
   ·have HN := Lib.hid (HGN.out hid)
    rw [hid] at HC1
    clear hid
    go_wp2_with (go_at_call 30; go_must (refine HC1.out.mono ?_; rintro e' W3 ⟨rfl, hB3⟩; have HB3 := Lib.hid (HB.out.trans (hB3.mono HB.out.size)); clear hB3))
    go_roundg (l.length - (k + 1))
    case measure => have := HGK.out; omega
    case rel => exact ⟨k + 1, by omega, rfl, by go_num, HN.out, HB3.out⟩
   ·have HID := Lib.hid hid
    rw [hid] at HC1
    clear hid
    go_wp2_with (go_at_call 30; go_must (refine HC1.out.mono ?_; rintro e' W3 ⟨rfl, hB3⟩; have HB3 := Lib.hid (HB.out.trans (hB3.mono HB.out.size)); clear hB3))
    go_ret
    exact ⟨_, rfl, HB3.out, ⟨fun _ => ⟨x, HX.out, HID.out⟩, fun _ => by omega⟩⟩
  ·obtain rfl : k = l.length := by omega
   rw [List.take_length] at HNO
   clear hB
   go_wp2
   go_ret
   exact ⟨_, rfl, HB.out, ⟨fun h => absurd h (by decide), fun ⟨x, hx, e⟩ => by rw [HNO.out x hx] at e; cases e⟩⟩
set_option maxHeartbeats 1000000 in
theorem conE_any (l : List PV) (Ap : Option Addr) (cp : Nat) (p : Int × Int) (g3 : Nat) (hn : l.length ≤ 1000000) (hp : Gd p) (hgr : ∀ x ∈ l, gdL x.par.ring = true ∧ x.par.ring.length ≤ 1000) (w : World) (hr : Prs w Ap l) (hc : w.heap[g3]? = some (.cells #[.int .i64 p.1, .int .i64 p.2] 28 (0, 0))) :
  Calls Try.prog 29 #[.slice Ap l.length cp, .func (.func 30) #[] #[.pointer (some ⟨g3, 0, none⟩)]] w fun e w' => e = .returned (.bool (l.any fun x => onE x.par.ring p)) ∧ Below w.heap.size w w' := by
 have HI := Lib.hid (idxE_any l Ap cp p g3 hn hp hgr w hr hc)
 have HBB : Hid ((l.any fun x => onE x.par.ring p) = true ↔ ∃ x ∈ l, onE x.par.ring p = true) := List.any_eq_true
 clear hr hc hgr hn hp
 generalize (l.any fun x => onE x.par.ring p) = bb at *
 go_enter Try.func29, Try.ntmps29
 go_wp2_with (go_at_call 39; go_must (refine HI.out.mono ?_; rintro e' W3 ⟨i, rfl, hB3, hi⟩; have HB3 := Lib.hid hB3; have HI3 := Lib.hid hi; clear hB3 hi))
 go_ret
 refine ⟨?_, HB3.out⟩
 have h := HI3.out.trans HBB.out.symm
 cases bb
 ·have : ¬ 0 ≤ i := fun hh => by have := h.1 hh; cases this
  simp [this]
 ·have := h.2 rfl
  simp [this]
set_option maxRecDepth 100000 in
set_option maxHeartbeats 1000000 in
theorem onEdge_any (o : List (Int × Int)) (Ao : Option Addr) (co : Nat) (l : List PV) (Ap : Option Addr) (cp : Nat) (p : Int × Int) (hn : l.length ≤ 1000000) (hp : Gd p) (hgr : ∀ x ∈ l, gdL x.par.ring = true ∧ x.par.ring.length ≤ 1000) (w : World) (hr : Prs w Ap l) :
  Calls Try.prog 18 #[.agg #[.slice Ao o.length co, .slice Ap l.length cp], .agg #[.int .i64 p.1, .int .i64 p.2]] w fun e w' => e = .returned (.bool (l.any fun x => onE x.par.ring p)) ∧ Below w.heap.size w w' := by
 have HQ := ((Hold.refl w).new #[.slice Ao o.length co, .slice Ap l.length cp] 26).new' #[.int .i64 p.1, .int .i64 p.2] 28 (n := w.heap.size + 1) (by simp)
 have HCE := Lib.hid (conE_any l Ap cp p (w.heap.size + 1) hn hp hgr _ (hr.on HQ.1) (HQ.2.1 _ (.head _)).1)
 clear hn hp hgr hr
 go_enter Try.func18, Try.ntmps18
 go_upto_region 1 with (fail)
 generalize (World.alloc _ _) = W1 at HQ HCE ⊢
 generalize w.heap.size + 1 = g3 at HQ HCE ⊢
 obtain ⟨g2, hg2⟩ : ∃ g, w.heap.size = g := ⟨_, rfl⟩
 have HB := Lib.hid HQ.1
 rw [hg2] at HQ ⊢
 have HG2 := Lib.hid hg2
 clear hg2
 obtain ⟨c0, c1⟩ := HQ.pt (.tail _ (.head _))
 clear HQ
 go_wp2_with (go_at_call 29; go_must (refine HCE.out.mono ?_; rintro e' W3 ⟨rfl, hB3⟩; have HB3 := Lib.hid (HB.out.trans (hB3.mono HB.out.size)); clear hB3))
 go_ret
 exact ⟨rfl, HG2.out ▸ HB3.out⟩
end Go.Proofs.Ytfjfmieadedjoaa

namespace Go.Proofs.Ytfjfmieadedjoaa
open Go.RowKit
noncomputable def parB (φ : List (Int × Int) → List (Int × Int)) (x : PV) : Par := ⟨x.par.id, nmL (φ x.par.ring), x.par.own⟩
def BentAt (w w' : World) (on : List (Int × Int)) (ps : List Par) (e : Ending) : Prop :=
 Below w.heap.size w w' ∧ ((chkQ on ps = false ∧ e = .returned (.tuple #[.agg #[.slice none 0 0, .slice none 0 0], .int .i64 8])) ∨
  (chkQ on ps = true ∧ ∃ A1 c1 Ap1 cp1 l', e = .returned (.tuple #[.agg #[.slice A1 on.length c1, .slice Ap1 l'.length cp1], .int .i64 0]) ∧ l'.map PV.par = ps ∧ Row w (.slice A1 on.length c1) on w' ∧ RowI w 39 3 encV (.slice Ap1 l'.length cp1) l' w' ∧ OwnRs w l' w'))
theorem Og.setIn {w W : World} {A1 Ap : Option Addr} {o : List (Int × Int)} {c1 n cp g g2 : Nat} {l : List PV} {x0 y0 : Value} {K : List (Nat × Array Value × TypeId)} (h : Og w A1 o c1 Ap n l cp g ((g2, #[x0, y0], 26) :: K) W) : Og w A1 o c1 Ap n l cp g2 K ((W.setCell ⟨g2, 0, none⟩ (.slice A1 o.length c1)).setCell ⟨g2, 1, none⟩ (.slice Ap n cp)) := by
 have hq := h.hold.tail
 have p1 : (26 : Nat) ≠ 39 := by decide
 have p2 : (26 : Nat) ≠ 28 := by decide
 have h1 := (hq.2.1 _ (.head _)).1
 have h2 := ((hq.set 0 (.slice A1 o.length c1)).2.1 _ (.head _)).1
 have hE := hq.set2 (.slice A1 o.length c1) (.slice Ap n cp)
 exact ⟨hE, ⟨hE.1, row_far_set (row_far_set h.out.2 (row_block h.out.2 h1 p2) _ _) (row_block h.out.2 h1 p2) _ _⟩, ⟨hE.1, row_far_set (row_far_set h.row.2 (row_block h.row.2 h1 p1) _ _) (row_block h.row.2 h1 p1) _ _⟩, (h.rs.set h1 p2 0 _).set h2 p2 1 _⟩
set_option maxRecDepth 100000 in
set_option maxHeartbeats 8000000 in
theorem anewM_any (o : List (Int × Int)) (Ao : Option Addr) (co : Nat) (l : List PV) (Ap : Option Addr) (cp : Nat) (φ : List (Int × Int) → List (Int × Int)) (on : List (Int × Int)) (hon : nmL (φ o) = on) (gp : Nat) (hl : l.length ≤ 64) (ho : on.length ≤ 1000 ∧ (φ o).length ≤ maxLen) (hlx : ∀ x ∈ l, (nmL (φ x.par.ring)).length ≤ 1000 ∧ x.par.own.size ≤ maxLen ∧ (φ x.par.ring).length ≤ maxLen) (w : World) (h : PlanAt w o Ao co l Ap cp)
  (hfo : ∀ W, Below w.heap.size w W → Calls Try.prog 19 #[.slice Ao o.length co, .pointer (some ⟨gp, 0, none⟩)] W fun e w' => RingTo W w' (φ o) e)
  (hfp : ∀ x ∈ l, ∀ W, Below w.heap.size w W → Calls Try.prog 19 #[.slice x.A x.par.ring.length x.cap, .pointer (some ⟨gp, 0, none⟩)] W fun e w' => RingTo W w' (φ x.par.ring) e) :
  Calls Try.prog 13 #[.agg #[.slice Ao o.length co, .slice Ap l.length cp], .func (.func 19) #[] #[.pointer (some ⟨gp, 0, none⟩)]] w fun e w' => BentAt w w' on (l.map (parB φ)) e := by
 have HFO := Lib.hid hfo
 have HFP := Lib.hid hfp
 have HLO := Lib.hid ho.2
 have HLN := Lib.hid ho.1
 have HLP := Lib.hid (fun x hx => (hlx x hx).2.2)
 have HLQ := Lib.hid (fun x hx => And.intro (hlx x hx).1 (hlx x hx).2.1)
 have HON := Lib.hid hon
 have HL64 := Lib.hid hl
 clear hfo hfp ho hlx hon
 have HPR := Lib.hid (fun W (hb : Below w.heap.size w W) => h.prs.on hb)
 have HPO := Lib.hid (fun W (hb : Below w.heap.size w W) => h.out.on hb)
 have HNI := Lib.hid h.nil
 have HRO := Lib.hid h.room
 have HQ := ((Hold.refl w).new #[.slice Ao o.length co, .slice Ap l.length cp] 26).new' #[.slice none 0 0, .slice none 0 0] 26 (n := w.heap.size + 1) (by simp)
 clear h
 go_enter Try.func13, Try.ntmps13
 go_upto_region 1 with (fail)
 generalize (World.alloc (World.alloc w _) _) = W1 at HQ ⊢
 generalize w.heap.size + 1 = g2 at HQ ⊢
 obtain ⟨g1, hg1⟩ : ∃ g, w.heap.size = g := ⟨_, rfl⟩
 have HG1 := Lib.hid hg1
 rw [hg1] at HQ ⊢
 clear hg1
 obtain ⟨c0, c1⟩ := HQ.pt (List.mem_cons_of_mem _ List.mem_cons_self)
 have HQX := Lib.hid HQ
 have hz1 := HQX.out.lt (List.mem_cons_of_mem _ List.mem_cons_self)
 clear HQ
 go_upto_region 2 with (first
  |(go_at_call 19; go_must (refine (HFO.out _ HQX.out.1).mono ?_; rintro e' Wa ⟨Aa, ca, rfl, hba, hpa, -, hca⟩; have hqa := HQX.out.on hba; have HQa := Lib.hid hqa; have HPa := Lib.hid hpa; have HCa := Lib.hid hca; clear hqa hba hpa hca))
  |(go_at_call 28; go_must (refine (begun_any _ _ _ HLO.out HCa.out _ HPa.out).mono ?_; rintro e' W2 ⟨v1, rfl, HR1⟩; rw [HON.out] at HR1; have hq2 := HQa.out.on HR1.1; have hr1 := HR1.base HQa.out.1; obtain ⟨A1, cA, rfl, -, hn1, hc1⟩ := hr1.full; have HN1 := Lib.hid hn1; have HC1 := Lib.hid hc1; have HR2 := Lib.hid hr1; have HQ2 := Lib.hid hq2; clear HR1 hr1 hn1 hc1 hq2)))
 clear c0 c1 hz1
 have HQ3 := HQ2.out.new #[.slice A1 on.length cA, .slice none 0 0] 26
 have HR3 := HR2.out.alloc (Obj.cells #[.slice A1 on.length cA, .slice none 0 0] 26 (0, 0))
 generalize (World.alloc _ _) = W3 at HQ3 HR3 ⊢
 generalize W2.heap.size = g3 at HQ3 ⊢
 clear HQX
 obtain ⟨c0, c1⟩ := HQ3.pt (List.mem_cons_of_mem _ (List.mem_cons_of_mem _ List.mem_cons_self))
 have HQY := Lib.hid HQ3
 have HRY := Lib.hid HR3
 clear HQ3 HR3 HR2 HQ2
 go_wp2_with fail
 clear c0 c1
 go_loopg [18] l.length (fun g i wr => ∃ (k : Nat) (v : Value) (l' : List PV), k ≤ l.length ∧ g = l.length - k ∧ i = .int .i64 k ∧ l'.map PV.par = (l.take k).map (parB φ) ∧ Row w (.slice A1 on.length cA) on wr ∧ RowI w 39 3 encV v l' wr ∧ OwnRs w l' wr ∧ Hold w [(g3, #[.slice A1 on.length cA, v], 26), (g2, #[.slice none 0 0, .slice none 0 0], 26), (g1, #[.slice Ao o.length co, .slice Ap l.length cp], 26)] wr)
 case atStart => exact ⟨0, .slice none 0 0, [], Nat.zero_le _, rfl, rfl, rfl, HRY.out, RowI.nil HRY.out.1, (fun x hx => (by cases hx)), HQY.out⟩
 case round =>
  obtain ⟨k, v, l', hk, hgk, rfl, hmap, HO, HV, HOR, HB⟩ := hrel
  have HGK := Lib.hid hgk
  have HMAP := Lib.hid hmap
  clear hgk hmap
  obtain ⟨c0, c1'⟩ := HB.pt (List.mem_cons_of_mem _ (List.mem_cons_of_mem _ List.mem_cons_self))
  by_cases hlt : k < l.length
  ·have hw := HPR.out _ HB.1
   obtain ⟨ad, rfl, -, d0, d1, d2⟩ := hw.at hlt
   obtain ⟨hp, hnil, hsz⟩ := hw.2 l[k] (List.getElem_mem hlt)
   have b0 : (0 : Int) ≤ (k : Int) := by omega
   have b1 : (k : Int) < (l.length : Int) := by omega
   have HMT : Hid ((l.take (k + 1)).map (parB φ) = (l.take k).map (parB φ) ++ [parB φ l[k]]) := by
    unfold Hid
    rw [List.take_succ_eq_append_getElem hlt, List.map_append]; rfl
   have HLL : Hid (l'.length ≤ 1000000) := by
    have := congrArg List.length HMAP.out
    rw [List.length_map, List.length_map, List.length_take] at this
    unfold Hid; omega
   have HP := Lib.hid hp
   have HNL := Lib.hid hnil
   have HSZ := Lib.hid hsz
   clear hw hp hnil hsz
   have HF5 := Lib.hid (HFP.out l[k] (List.getElem_mem hlt))
   have HL5 := Lib.hid (HLP.out l[k] (List.getElem_mem hlt))
   have HPB : Hid (parB φ l[k] = ⟨l[k].par.id, nmL (φ l[k].par.ring), l[k].par.own⟩) := rfl
   rw [HPB.out] at HMT
   clear HPB
   generalize l[k].par = x at *
   generalize l[k].A = Ak at *
   generalize l[k].cap = ck at *
   generalize hrf : φ x.ring = rf at *
   clear hrf
   go_upto_region 5 with (fail)
   have hb1 := (Below.refl wr.heap.size wr).alloc (Nat.le_refl _) (.cells #[.int .i64 x.id, .slice Ak x.ring.length ck, .string x.own] 39 (0, 0))
   have HQ := HB.new #[.int .i64 x.id, .slice Ak x.ring.length ck, .string x.own] 39
   have HO1 := HO.on hb1
   have HV1 := HV.on hb1
   have HOR1 := HOR.on hb1
   have HNV := Lib.hid (HV.row_ne (Nat.le_refl _))
   clear HB HP HO HV HOR hb1 d0 d1 d2 c0 c1'
   generalize (World.alloc _ _) = W5 at HQ HO1 HV1 HOR1 ⊢
   generalize wr.heap.size = g5 at HQ HNV ⊢
   have k1 := HQ.cell (.head _) 1
   simp only [List.getElem?_toArray, List.getElem?_cons_zero, List.getElem?_cons_succ] at k1
   have hz5 := HQ.lt (.head _)
   have HQ5 := Lib.hid HQ
   have HO5 := Lib.hid HO1
   have HV5 := Lib.hid HV1
   have HOR5 := Lib.hid HOR1
   clear HQ HO1 HV1 HOR1
   go_upto_region 6 with (first
    |(go_at_call 19; go_must (refine (HF5.out _ HQ5.out.1).mono ?_; rintro e' Wb ⟨Ab, cb, rfl, hbb, hpb, -, hcb⟩; have HQb := Lib.hid (HQ5.out.on hbb); have HOb := Lib.hid (HO5.out.on hbb); have HVb := Lib.hid (HV5.out.on hbb); have HORb := Lib.hid (HOR5.out.on hbb); have HPb := Lib.hid hpb; have HCb := Lib.hid hcb; clear hbb hpb hcb))
    |(go_at_call 28; go_must (refine (begun_any _ _ _ HL5.out HCb.out _ HPb.out).mono ?_; rintro e' W6 ⟨v6, rfl, HR6⟩; have hq6 := HQb.out.on HR6.1; have hr6 := HR6.base HQb.out.1; obtain ⟨A6, c6, rfl, -, hn6, hc6⟩ := hr6.full; have k6 := hq6.frozen (.head _) 1; have HN6 := Lib.hid hn6; have HC6 := Lib.hid hc6; have HR7 := Lib.hid hr6; have HQ6 := Lib.hid hq6; have HO6 := Lib.hid (HOb.out.on HR6.1); have HV6 := Lib.hid (HVb.out.on HR6.1); have HOR6 := Lib.hid (HORb.out.on HR6.1); have k7 := hq6.cell (.head _) 1; clear HR6 hr6 hn6 hc6 hq6)))
   clear k1 hz5
   generalize hrn : nmL rf = rn at *
   clear hrn
   have HQ7 : Hold w [(g5, #[.int .i64 x.id, .slice A6 rn.length c6, .string x.own], 39), (g3, #[.slice A1 on.length cA, v], 26), (g2, #[.slice none 0 0, .slice none 0 0], 26), (g1, #[.slice Ao o.length co, .slice (some ad) l.length cp], 26)] (W6.setCell ⟨g5, 1, none⟩ (.slice A6 rn.length c6)) := HQ6.out.set 1 (.slice A6 rn.length c6)
   have hh5 := (HQ6.out.2.1 _ (.head _)).1
   have HV7 : RowI w 39 3 encV v l' (W6.setCell ⟨g5, 1, none⟩ (.slice A6 rn.length c6)) := ⟨HQ7.1, row_far_set HV6.out.2 HNV.out 1 _⟩
   have HO7 : Row w (.slice A1 on.length cA) on (W6.setCell ⟨g5, 1, none⟩ (.slice A6 rn.length c6)) := ⟨HQ7.1, row_far_set HO6.out.2 (row_block HO6.out.2 hh5 (show (39 : Nat) ≠ 28 by decide)) 1 _⟩
   have HOR7 := HOR6.out.set hh5 (show (39 : Nat) ≠ 28 by decide) 1 (.slice A6 rn.length c6)
   have HNR7 := row_far_set HR7.out.2 (row_block HR7.out.2 hh5 (show (39 : Nat) ≠ 28 by decide)) 1 (.slice A6 rn.length c6)
   have HOX : Hid (OwnRs w (l' ++ [⟨⟨x.id, rn, x.own⟩, A6, c6⟩]) (W6.setCell ⟨g5, 1, none⟩ (.slice A6 rn.length c6))) := fun y hy => by
    rcases List.mem_append.1 hy with hy | hy
    ·exact HOR7 y hy
    ·obtain rfl := List.mem_singleton.1 hy
     exact HNR7
   clear hh5 HOR7 HNR7 HV6 HO6 HOR6 HR7 HQ6 HQ5 HO5 HV5 HOR5 HQb HOb HVb HORb HPb HCb k6 k7
   generalize (World.setCell W6 _ _) = W7 at HQ7 HV7 HO7 HOX ⊢
   have k0 := HQ7.cell (.head _) 0
   have k1 := HQ7.cell (.head _) 1
   have k2 := HQ7.cell (.head _) 2
   have m1 := HQ7.cell (List.mem_cons_of_mem _ List.mem_cons_self) 1
   simp only [List.getElem?_toArray, List.getElem?_cons_zero, List.getElem?_cons_succ] at k0 k1 k2 m1
   have HNG3 := Lib.hid (HV7.apart (HQ7.2.1 _ (List.mem_cons_of_mem _ List.mem_cons_self)).1 (show (26 : Nat) ≠ 39 by decide))
   have HNG2 := Lib.hid (HV7.apart (HQ7.2.1 _ (List.mem_cons_of_mem _ (List.mem_cons_of_mem _ List.mem_cons_self))).1 (show (26 : Nat) ≠ 39 by decide))
   have HNG1 := Lib.hid (HV7.apart (HQ7.2.1 _ (List.mem_cons_of_mem _ (List.mem_cons_of_mem _ (List.mem_cons_of_mem _ List.mem_cons_self)))).1 (show (26 : Nat) ≠ 39 by decide))
   have HV8 := Lib.hid HV7
   have HQ8 := Lib.hid HQ7
   have HO8 := Lib.hid HO7
   clear HV7 HQ7 HO7
   go_wp2_with (at_builtin; go_must (refine append_itemG kindV Try.underlying24 HV8.out ⟨⟨x.id, rn, x.own⟩, A6, c6⟩ 39 #[.int .i64 x.id, .slice A6 rn.length c6, .string x.own] rfl (by have := HLL.out; unfold maxLen; omega) (by have := HLL.out; omega) rfl _ _ rfl rfl 1 rfl ?_; rintro v9 w9 HR9 hg9; have hq9 := Hold.grow (HQ8.out.alloc (Obj.cells #[.int .i64 x.id, .slice A6 rn.length c6, .string x.own] 39 (0, 0))) HR9.1 hg9 (fun e he => by rcases List.mem_cons.1 he with rfl | he; exact HNV.out; rcases List.mem_cons.1 he with rfl | he; exact HNG3.out; rcases List.mem_cons.1 he with rfl | he; exact HNG2.out; rcases List.mem_cons.1 he with rfl | he; exact HNG1.out; cases he); have HX9 := Lib.hid (OwnRs.grow (OwnRs.alloc HOX.out (Obj.cells #[.int .i64 x.id, .slice A6 rn.length c6, .string x.own] 39 (0, 0))) (HV8.out.alloc (Obj.cells #[.int .i64 x.id, .slice A6 rn.length c6, .string x.own] 39 (0, 0))).2 (show (28 : Nat) ≠ 39 by decide) hg9); have HO9 := Lib.hid (((HO8.out.alloc (Obj.cells #[.int .i64 x.id, .slice A6 rn.length c6, .string x.own] 39 (0, 0))).2).kept hg9 (rows_apart (HO8.out.alloc (Obj.cells #[.int .i64 x.id, .slice A6 rn.length c6, .string x.own] 39 (0, 0))).2 (HV8.out.alloc (Obj.cells #[.int .i64 x.id, .slice A6 rn.length c6, .string x.own] 39 (0, 0))).2 (show (28 : Nat) ≠ 39 by decide))); obtain ⟨A9, c9, hv9, -, -⟩ := HR9.items; have hl9 : (l' ++ [(⟨⟨x.id, rn, x.own⟩, A6, c6⟩ : PV)]).length = l'.length + 1 := (by simp); rw [hl9] at hv9; have HRR := Lib.hid HR9; have z1 := hq9.frozen (List.mem_cons_of_mem _ List.mem_cons_self) 1; have z2 := hq9.cell (List.mem_cons_of_mem _ List.mem_cons_self) 1; have HQ9 := Lib.hid hq9; subst hv9; clear HR9 hg9 hq9 hl9))
   have HQ10 : Hold w [(g3, #[.slice A1 on.length cA, .slice A9 (l'.length + 1) c9], 26), (g2, #[.slice none 0 0, .slice none 0 0], 26), (g1, #[.slice Ao o.length co, .slice (some ad) l.length cp], 26)] _ := HQ9.out.tail.set 1 (.slice A9 (l'.length + 1) c9)
   have hh3 := (HQ9.out.2.1 _ (List.mem_cons_of_mem _ List.mem_cons_self)).1
   have hv10 : RowI w 39 3 encV (.slice A9 (l'.length + 1) c9) (l' ++ [(⟨⟨x.id, rn, x.own⟩, A6, c6⟩ : PV)]) (w9.setCell ⟨g3, 1, none⟩ (.slice A9 (l'.length + 1) c9)) := ⟨HQ10.1, row_far_set HRR.out.2 (row_block HRR.out.2 hh3 (show (26 : Nat) ≠ 39 by decide)) 1 _⟩
   have ho10 : Row w (.slice A1 on.length cA) on (w9.setCell ⟨g3, 1, none⟩ (.slice A9 (l'.length + 1) c9)) := ⟨HQ10.1, row_far_set HO9.out (row_block HO9.out hh3 (show (26 : Nat) ≠ 28 by decide)) 1 _⟩
   have hx10 := HX9.out.set hh3 (show (26 : Nat) ≠ 28 by decide) 1 (.slice A9 (l'.length + 1) c9)
   go_roundg (l.length - (k + 1))
   case measure => have := HGK.out; omega
   case rel => exact ⟨k + 1, _, l' ++ [(⟨⟨x.id, rn, x.own⟩, A6, c6⟩ : PV)], by omega, rfl, by go_num, by rw [HMT.out, List.map_append, HMAP.out]; rfl, ho10, hv10, hx10, HQ10⟩
  ·obtain rfl : k = l.length := by omega
   have HMF : Hid (l'.map PV.par = l.map (parB φ)) := by have := HMAP.out; rwa [List.take_length] at this
   obtain ⟨A9, c9, hv9, -, -⟩ := HV.items
   subst hv9
   have hog : Og w A1 on cA A9 l'.length l' c9 g3 [(g2, #[.slice none 0 0, .slice none 0 0], 26), (g1, #[.slice Ao o.length co, .slice Ap l.length cp], 26)] wr := ⟨HB, HO, HV, HOR⟩
   have hmem : ∀ x ∈ l', x.par.ring.length ≤ 1000 ∧ x.par.own.size ≤ maxLen := fun x hx => by
    have hm : x.par ∈ l.map (parB φ) := by rw [← HMF.out]; exact List.mem_map_of_mem hx
    obtain ⟨y, hy, e⟩ := List.mem_map.1 hm
    have := HLQ.out y hy
    rw [← e]
    exact this
   have hll : l'.length = l.length := by have := congrArg List.length HMF.out; rwa [List.length_map, List.length_map] at this
   have h64 := HL64.out
   have HCK := Lib.hid (check_any (by omega) (by have := HLN.out; omega) (fun x hx => (hmem x hx).2) (hog.plan rfl HLN.out (fun x hx => (hmem x hx).1)))
   have HQC : Hid (chkB on l' = chkQ on (l.map (parB φ))) := by unfold Hid; rw [chkQ_of, HMF.out]
   have HOG := Lib.hid hog
   obtain ⟨m0, m1⟩ := hog.hold.pt (.head _)
   have a3 : ¬ ((l.length : Int) < (l.length : Int)) := by omega
   clear hog hmem hll h64 HB HO HV HOR hk
   go_wp2_with fail
   go_at_call 23
   refine HCK.out.mono ?_
   rintro e' W9 ⟨rfl, hB9⟩
   have hog9 := HOG.out.on hB9
   have HG9 := Lib.hid hog9
   clear hB9 m0 m1 a3
   obtain ⟨m0, m1⟩ := hog9.hold.pt (.head _)
   obtain ⟨y0, y1⟩ := hog9.hold.pt (.tail _ (.head _))
   obtain ⟨z0, z1⟩ := hog9.hold.fz (.tail _ (.head _))
   clear hog9
   cases hcb : chkB on l'
   ·rw [ckR_false hcb]
    have HF := Lib.hid (HQC.out.symm.trans hcb)
    clear hcb
    go_wp2
    have HE2 := HG9.out.hold.swap2 (.slice none 0 0) (.slice none 0 0)
    obtain ⟨n0, n1⟩ := HE2.pt (.tail _ (.head _))
    refine bodyPost_ret (v := .tuple #[.agg #[.slice none 0 0, .slice none 0 0], .int .i64 8]) ?_ rfl ⟨HE2.1, .inl ⟨HF.out, rfl⟩⟩
    simp [results, Try.results13, go_sem, n0, n1]
   ·rw [ckR_true hcb]
    have HF := Lib.hid (HQC.out.symm.trans hcb)
    clear hcb
    go_wp2
    have HE2 := Og.setIn HG9.out
    obtain ⟨n0, n1⟩ := HE2.hold.pt (.head _)
    refine bodyPost_ret (v := .tuple #[.agg #[.slice A1 on.length cA, .slice A9 l'.length c9], .int .i64 0]) ?_ rfl ⟨HE2.hold.1, .inr ⟨HF.out, A1, cA, A9, c9, l', rfl, HMF.out, HE2.out, HE2.row, HE2.rs⟩⟩
    simp [results, Try.results13, go_sem, n0, n1]
set_option maxRecDepth 100000 in
set_option maxHeartbeats 8000000 in
theorem anewV_any (o : List (Int × Int)) (Ao : Option Addr) (co : Nat) (l : List PV) (Ap : Option Addr) (cp : Nat) (φ : List (Int × Int) → List (Int × Int)) (on : List (Int × Int)) (hon : nmL (φ o) = on) (gp gq : Nat) (hl : l.length ≤ 64) (ho : on.length ≤ 1000 ∧ (φ o).length ≤ maxLen) (hlx : ∀ x ∈ l, (nmL (φ x.par.ring)).length ≤ 1000 ∧ x.par.own.size ≤ maxLen ∧ (φ x.par.ring).length ≤ maxLen) (w : World) (h : PlanAt w o Ao co l Ap cp)
  (hfo : ∀ W, Below w.heap.size w W → Calls Try.prog 14 #[.slice Ao o.length co, .pointer (some ⟨gp, 0, none⟩), .pointer (some ⟨gq, 0, none⟩)] W fun e w' => RingTo W w' (φ o) e)
  (hfp : ∀ x ∈ l, ∀ W, Below w.heap.size w W → Calls Try.prog 14 #[.slice x.A x.par.ring.length x.cap, .pointer (some ⟨gp, 0, none⟩), .pointer (some ⟨gq, 0, none⟩)] W fun e w' => RingTo W w' (φ x.par.ring) e) :
  Calls Try.prog 13 #[.agg #[.slice Ao o.length co, .slice Ap l.length cp], .func (.func 14) #[] #[.pointer (some ⟨gp, 0, none⟩), .pointer (some ⟨gq, 0, none⟩)]] w fun e w' => BentAt w w' on (l.map (parB φ)) e := by
 have HFO := Lib.hid hfo
 have HFP := Lib.hid hfp
 have HLO := Lib.hid ho.2
 have HLN := Lib.hid ho.1
 have HLP := Lib.hid (fun x hx => (hlx x hx).2.2)
 have HLQ := Lib.hid (fun x hx => And.intro (hlx x hx).1 (hlx x hx).2.1)
 have HON := Lib.hid hon
 have HL64 := Lib.hid hl
 clear hfo hfp ho hlx hon
 have HPR := Lib.hid (fun W (hb : Below w.heap.size w W) => h.prs.on hb)
 have HPO := Lib.hid (fun W (hb : Below w.heap.size w W) => h.out.on hb)
 have HNI := Lib.hid h.nil
 have HRO := Lib.hid h.room
 have HQ := ((Hold.refl w).new #[.slice Ao o.length co, .slice Ap l.length cp] 26).new' #[.slice none 0 0, .slice none 0 0] 26 (n := w.heap.size + 1) (by simp)
 clear h
 go_enter Try.func13, Try.ntmps13
 go_upto_region 1 with (fail)
 generalize (World.alloc (World.alloc w _) _) = W1 at HQ ⊢
 generalize w.heap.size + 1 = g2 at HQ ⊢
 obtain ⟨g1, hg1⟩ : ∃ g, w.heap.size = g := ⟨_, rfl⟩
 have HG1 := Lib.hid hg1
 rw [hg1] at HQ ⊢
 clear hg1
 obtain ⟨c0, c1⟩ := HQ.pt (List.mem_cons_of_mem _ List.mem_cons_self)
 have HQX := Lib.hid HQ
 have hz1 := HQX.out.lt (List.mem_cons_of_mem _ List.mem_cons_self)
 clear HQ
 go_upto_region 2 with (first
  |(go_at_call 14; go_must (refine (HFO.out _ HQX.out.1).mono ?_; rintro e' Wa ⟨Aa, ca, rfl, hba, hpa, -, hca⟩; have hqa := HQX.out.on hba; have HQa := Lib.hid hqa; have HPa := Lib.hid hpa; have HCa := Lib.hid hca; clear hqa hba hpa hca))
  |(go_at_call 28; go_must (refine (begun_any _ _ _ HLO.out HCa.out _ HPa.out).mono ?_; rintro e' W2 ⟨v1, rfl, HR1⟩; rw [HON.out] at HR1; have hq2 := HQa.out.on HR1.1; have hr1 := HR1.base HQa.out.1; obtain ⟨A1, cA, rfl, -, hn1, hc1⟩ := hr1.full; have HN1 := Lib.hid hn1; have HC1 := Lib.hid hc1; have HR2 := Lib.hid hr1; have HQ2 := Lib.hid hq2; clear HR1 hr1 hn1 hc1 hq2)))
 clear c0 c1 hz1
 have HQ3 := HQ2.out.new #[.slice A1 on.length cA, .slice none 0 0] 26
 have HR3 := HR2.out.alloc (Obj.cells #[.slice A1 on.length cA, .slice none 0 0] 26 (0, 0))
 generalize (World.alloc _ _) = W3 at HQ3 HR3 ⊢
 generalize W2.heap.size = g3 at HQ3 ⊢
 clear HQX
 obtain ⟨c0, c1⟩ := HQ3.pt (List.mem_cons_of_mem _ (List.mem_cons_of_mem _ List.mem_cons_self))
 have HQY := Lib.hid HQ3
 have HRY := Lib.hid HR3
 clear HQ3 HR3 HR2 HQ2
 go_wp2_with fail
 clear c0 c1
 go_loopg [18] l.length (fun g i wr => ∃ (k : Nat) (v : Value) (l' : List PV), k ≤ l.length ∧ g = l.length - k ∧ i = .int .i64 k ∧ l'.map PV.par = (l.take k).map (parB φ) ∧ Row w (.slice A1 on.length cA) on wr ∧ RowI w 39 3 encV v l' wr ∧ OwnRs w l' wr ∧ Hold w [(g3, #[.slice A1 on.length cA, v], 26), (g2, #[.slice none 0 0, .slice none 0 0], 26), (g1, #[.slice Ao o.length co, .slice Ap l.length cp], 26)] wr)
 case atStart => exact ⟨0, .slice none 0 0, [], Nat.zero_le _, rfl, rfl, rfl, HRY.out, RowI.nil HRY.out.1, (fun x hx => (by cases hx)), HQY.out⟩
 case round =>
  obtain ⟨k, v, l', hk, hgk, rfl, hmap, HO, HV, HOR, HB⟩ := hrel
  have HGK := Lib.hid hgk
  have HMAP := Lib.hid hmap
  clear hgk hmap
  obtain ⟨c0, c1'⟩ := HB.pt (List.mem_cons_of_mem _ (List.mem_cons_of_mem _ List.mem_cons_self))
  by_cases hlt : k < l.length
  ·have hw := HPR.out _ HB.1
   obtain ⟨ad, rfl, -, d0, d1, d2⟩ := hw.at hlt
   obtain ⟨hp, hnil, hsz⟩ := hw.2 l[k] (List.getElem_mem hlt)
   have b0 : (0 : Int) ≤ (k : Int) := by omega
   have b1 : (k : Int) < (l.length : Int) := by omega
   have HMT : Hid ((l.take (k + 1)).map (parB φ) = (l.take k).map (parB φ) ++ [parB φ l[k]]) := by
    unfold Hid
    rw [List.take_succ_eq_append_getElem hlt, List.map_append]; rfl
   have HLL : Hid (l'.length ≤ 1000000) := by
    have := congrArg List.length HMAP.out
    rw [List.length_map, List.length_map, List.length_take] at this
    unfold Hid; omega
   have HP := Lib.hid hp
   have HNL := Lib.hid hnil
   have HSZ := Lib.hid hsz
   clear hw hp hnil hsz
   have HF5 := Lib.hid (HFP.out l[k] (List.getElem_mem hlt))
   have HL5 := Lib.hid (HLP.out l[k] (List.getElem_mem hlt))
   have HPB : Hid (parB φ l[k] = ⟨l[k].par.id, nmL (φ l[k].par.ring), l[k].par.own⟩) := rfl
   rw [HPB.out] at HMT
   clear HPB
   generalize l[k].par = x at *
   generalize l[k].A = Ak at *
   generalize l[k].cap = ck at *
   generalize hrf : φ x.ring = rf at *
   clear hrf
   go_upto_region 5 with (fail)
   have hb1 := (Below.refl wr.heap.size wr).alloc (Nat.le_refl _) (.cells #[.int .i64 x.id, .slice Ak x.ring.length ck, .string x.own] 39 (0, 0))
   have HQ := HB.new #[.int .i64 x.id, .slice Ak x.ring.length ck, .string x.own] 39
   have HO1 := HO.on hb1
   have HV1 := HV.on hb1
   have HOR1 := HOR.on hb1
   have HNV := Lib.hid (HV.row_ne (Nat.le_refl _))
   clear HB HP HO HV HOR hb1 d0 d1 d2 c0 c1'
   generalize (World.alloc _ _) = W5 at HQ HO1 HV1 HOR1 ⊢
   generalize wr.heap.size = g5 at HQ HNV ⊢
   have k1 := HQ.cell (.head _) 1
   simp only [List.getElem?_toArray, List.getElem?_cons_zero, List.getElem?_cons_succ] at k1
   have hz5 := HQ.lt (.head _)
   have HQ5 := Lib.hid HQ
   have HO5 := Lib.hid HO1
   have HV5 := Lib.hid HV1
   have HOR5 := Lib.hid HOR1
   clear HQ HO1 HV1 HOR1
   go_upto_region 6 with (first
    |(go_at_call 14; go_must (refine (HF5.out _ HQ5.out.1).mono ?_; rintro e' Wb ⟨Ab, cb, rfl, hbb, hpb, -, hcb⟩; have HQb := Lib.hid (HQ5.out.on hbb); have HOb := Lib.hid (HO5.out.on hbb); have HVb := Lib.hid (HV5.out.on hbb); have HORb := Lib.hid (HOR5.out.on hbb); have HPb := Lib.hid hpb; have HCb := Lib.hid hcb; clear hbb hpb hcb))
    |(go_at_call 28; go_must (refine (begun_any _ _ _ HL5.out HCb.out _ HPb.out).mono ?_; rintro e' W6 ⟨v6, rfl, HR6⟩; have hq6 := HQb.out.on HR6.1; have hr6 := HR6.base HQb.out.1; obtain ⟨A6, c6, rfl, -, hn6, hc6⟩ := hr6.full; have k6 := hq6.frozen (.head _) 1; have HN6 := Lib.hid hn6; have HC6 := Lib.hid hc6; have HR7 := Lib.hid hr6; have HQ6 := Lib.hid hq6; have HO6 := Lib.hid (HOb.out.on HR6.1); have HV6 := Lib.hid (HVb.out.on HR6.1); have HOR6 := Lib.hid (HORb.out.on HR6.1); have k7 := hq6.cell (.head _) 1; clear HR6 hr6 hn6 hc6 hq6)))
   clear k1 hz5
   generalize hrn : nmL rf = rn at *
   clear hrn
   have HQ7 : Hold w [(g5, #[.int .i64 x.id, .slice A6 rn.length c6, .string x.own], 39), (g3, #[.slice A1 on.length cA, v], 26), (g2, #[.slice none 0 0, .slice none 0 0], 26), (g1, #[.slice Ao o.length co, .slice (some ad) l.length cp], 26)] (W6.setCell ⟨g5, 1, none⟩ (.slice A6 rn.length c6)) := HQ6.out.set 1 (.slice A6 rn.length c6)
   have hh5 := (HQ6.out.2.1 _ (.head _)).1
   have HV7 : RowI w 39 3 encV v l' (W6.setCell ⟨g5, 1, none⟩ (.slice A6 rn.length c6)) := ⟨HQ7.1, row_far_set HV6.out.2 HNV.out 1 _⟩
   have HO7 : Row w (.slice A1 on.length cA) on (W6.setCell ⟨g5, 1, none⟩ (.slice A6 rn.length c6)) := ⟨HQ7.1, row_far_set HO6.out.2 (row_block HO6.out.2 hh5 (show (39 : Nat) ≠ 28 by decide)) 1 _⟩
   have HOR7 := HOR6.out.set hh5 (show (39 : Nat) ≠ 28 by decide) 1 (.slice A6 rn.length c6)
   have HNR7 := row_far_set HR7.out.2 (row_block HR7.out.2 hh5 (show (39 : Nat) ≠ 28 by decide)) 1 (.slice A6 rn.length c6)
   have HOX : Hid (OwnRs w (l' ++ [⟨⟨x.id, rn, x.own⟩, A6, c6⟩]) (W6.setCell ⟨g5, 1, none⟩ (.slice A6 rn.length c6))) := fun y hy => by
    rcases List.mem_append.1 hy with hy | hy
    ·exact HOR7 y hy
    ·obtain rfl := List.mem_singleton.1 hy
     exact HNR7
   clear hh5 HOR7 HNR7 HV6 HO6 HOR6 HR7 HQ6 HQ5 HO5 HV5 HOR5 HQb HOb HVb HORb HPb HCb k6 k7
   generalize (World.setCell W6 _ _) = W7 at HQ7 HV7 HO7 HOX ⊢
   have k0 := HQ7.cell (.head _) 0
   have k1 := HQ7.cell (.head _) 1
   have k2 := HQ7.cell (.head _) 2
   have m1 := HQ7.cell (List.mem_cons_of_mem _ List.mem_cons_self) 1
   simp only [List.getElem?_toArray, List.getElem?_cons_zero, List.getElem?_cons_succ] at k0 k1 k2 m1
   have HNG3 := Lib.hid (HV7.apart (HQ7.2.1 _ (List.mem_cons_of_mem _ List.mem_cons_self)).1 (show (26 : Nat) ≠ 39 by decide))
   have HNG2 := Lib.hid (HV7.apart (HQ7.2.1 _ (List.mem_cons_of_mem _ (List.mem_cons_of_mem _ List.mem_cons_self))).1 (show (26 : Nat) ≠ 39 by decide))
   have HNG1 := Lib.hid (HV7.apart (HQ7.2.1 _ (List.mem_cons_of_mem _ (List.mem_cons_of_mem _ (List.mem_cons_of_mem _ List.mem_cons_self)))).1 (show (26 : Nat) ≠ 39 by decide))
   have HV8 := Lib.hid HV7
   have HQ8 := Lib.hid HQ7
   have HO8 := Lib.hid HO7
   clear HV7 HQ7 HO7
   go_wp2_with (at_builtin; go_must (refine append_itemG kindV Try.underlying24 HV8.out ⟨⟨x.id, rn, x.own⟩, A6, c6⟩ 39 #[.int .i64 x.id, .slice A6 rn.length c6, .string x.own] rfl (by have := HLL.out; unfold maxLen; omega) (by have := HLL.out; omega) rfl _ _ rfl rfl 1 rfl ?_; rintro v9 w9 HR9 hg9; have hq9 := Hold.grow (HQ8.out.alloc (Obj.cells #[.int .i64 x.id, .slice A6 rn.length c6, .string x.own] 39 (0, 0))) HR9.1 hg9 (fun e he => by rcases List.mem_cons.1 he with rfl | he; exact HNV.out; rcases List.mem_cons.1 he with rfl | he; exact HNG3.out; rcases List.mem_cons.1 he with rfl | he; exact HNG2.out; rcases List.mem_cons.1 he with rfl | he; exact HNG1.out; cases he); have HX9 := Lib.hid (OwnRs.grow (OwnRs.alloc HOX.out (Obj.cells #[.int .i64 x.id, .slice A6 rn.length c6, .string x.own] 39 (0, 0))) (HV8.out.alloc (Obj.cells #[.int .i64 x.id, .slice A6 rn.length c6, .string x.own] 39 (0, 0))).2 (show (28 : Nat) ≠ 39 by decide) hg9); have HO9 := Lib.hid (((HO8.out.alloc (Obj.cells #[.int .i64 x.id, .slice A6 rn.length c6, .string x.own] 39 (0, 0))).2).kept hg9 (rows_apart (HO8.out.alloc (Obj.cells #[.int .i64 x.id, .slice A6 rn.length c6, .string x.own] 39 (0, 0))).2 (HV8.out.alloc (Obj.cells #[.int .i64 x.id, .slice A6 rn.length c6, .string x.own] 39 (0, 0))).2 (show (28 : Nat) ≠ 39 by decide))); obtain ⟨A9, c9, hv9, -, -⟩ := HR9.items; have hl9 : (l' ++ [(⟨⟨x.id, rn, x.own⟩, A6, c6⟩ : PV)]).length = l'.length + 1 := (by simp); rw [hl9] at hv9; have HRR := Lib.hid HR9; have z1 := hq9.frozen (List.mem_cons_of_mem _ List.mem_cons_self) 1; have z2 := hq9.cell (List.mem_cons_of_mem _ List.mem_cons_self) 1; have HQ9 := Lib.hid hq9; subst hv9; clear HR9 hg9 hq9 hl9))
   have HQ10 : Hold w [(g3, #[.slice A1 on.length cA, .slice A9 (l'.length + 1) c9], 26), (g2, #[.slice none 0 0, .slice none 0 0], 26), (g1, #[.slice Ao o.length co, .slice (some ad) l.length cp], 26)] _ := HQ9.out.tail.set 1 (.slice A9 (l'.length + 1) c9)
   have hh3 := (HQ9.out.2.1 _ (List.mem_cons_of_mem _ List.mem_cons_self)).1
   have hv10 : RowI w 39 3 encV (.slice A9 (l'.length + 1) c9) (l' ++ [(⟨⟨x.id, rn, x.own⟩, A6, c6⟩ : PV)]) (w9.setCell ⟨g3, 1, none⟩ (.slice A9 (l'.length + 1) c9)) := ⟨HQ10.1, row_far_set HRR.out.2 (row_block HRR.out.2 hh3 (show (26 : Nat) ≠ 39 by decide)) 1 _⟩
   have ho10 : Row w (.slice A1 on.length cA) on (w9.setCell ⟨g3, 1, none⟩ (.slice A9 (l'.length + 1) c9)) := ⟨HQ10.1, row_far_set HO9.out (row_block HO9.out hh3 (show (26 : Nat) ≠ 28 by decide)) 1 _⟩
   have hx10 := HX9.out.set hh3 (show (26 : Nat) ≠ 28 by decide) 1 (.slice A9 (l'.length + 1) c9)
   go_roundg (l.length - (k + 1))
   case measure => have := HGK.out; omega
   case rel => exact ⟨k + 1, _, l' ++ [(⟨⟨x.id, rn, x.own⟩, A6, c6⟩ : PV)], by omega, rfl, by go_num, by rw [HMT.out, List.map_append, HMAP.out]; rfl, ho10, hv10, hx10, HQ10⟩
  ·obtain rfl : k = l.length := by omega
   have HMF : Hid (l'.map PV.par = l.map (parB φ)) := by have := HMAP.out; rwa [List.take_length] at this
   obtain ⟨A9, c9, hv9, -, -⟩ := HV.items
   subst hv9
   have hog : Og w A1 on cA A9 l'.length l' c9 g3 [(g2, #[.slice none 0 0, .slice none 0 0], 26), (g1, #[.slice Ao o.length co, .slice Ap l.length cp], 26)] wr := ⟨HB, HO, HV, HOR⟩
   have hmem : ∀ x ∈ l', x.par.ring.length ≤ 1000 ∧ x.par.own.size ≤ maxLen := fun x hx => by
    have hm : x.par ∈ l.map (parB φ) := by rw [← HMF.out]; exact List.mem_map_of_mem hx
    obtain ⟨y, hy, e⟩ := List.mem_map.1 hm
    have := HLQ.out y hy
    rw [← e]
    exact this
   have hll : l'.length = l.length := by have := congrArg List.length HMF.out; rwa [List.length_map, List.length_map] at this
   have h64 := HL64.out
   have HCK := Lib.hid (check_any (by omega) (by have := HLN.out; omega) (fun x hx => (hmem x hx).2) (hog.plan rfl HLN.out (fun x hx => (hmem x hx).1)))
   have HQC : Hid (chkB on l' = chkQ on (l.map (parB φ))) := by unfold Hid; rw [chkQ_of, HMF.out]
   have HOG := Lib.hid hog
   obtain ⟨m0, m1⟩ := hog.hold.pt (.head _)
   have a3 : ¬ ((l.length : Int) < (l.length : Int)) := by omega
   clear hog hmem hll h64 HB HO HV HOR hk
   go_wp2_with fail
   go_at_call 23
   refine HCK.out.mono ?_
   rintro e' W9 ⟨rfl, hB9⟩
   have hog9 := HOG.out.on hB9
   have HG9 := Lib.hid hog9
   clear hB9 m0 m1 a3
   obtain ⟨m0, m1⟩ := hog9.hold.pt (.head _)
   obtain ⟨y0, y1⟩ := hog9.hold.pt (.tail _ (.head _))
   obtain ⟨z0, z1⟩ := hog9.hold.fz (.tail _ (.head _))
   clear hog9
   cases hcb : chkB on l'
   ·rw [ckR_false hcb]
    have HF := Lib.hid (HQC.out.symm.trans hcb)
    clear hcb
    go_wp2
    have HE2 := HG9.out.hold.swap2 (.slice none 0 0) (.slice none 0 0)
    obtain ⟨n0, n1⟩ := HE2.pt (.tail _ (.head _))
    refine bodyPost_ret (v := .tuple #[.agg #[.slice none 0 0, .slice none 0 0], .int .i64 8]) ?_ rfl ⟨HE2.1, .inl ⟨HF.out, rfl⟩⟩
    simp [results, Try.results13, go_sem, n0, n1]
   ·rw [ckR_true hcb]
    have HF := Lib.hid (HQC.out.symm.trans hcb)
    clear hcb
    go_wp2
    have HE2 := Og.setIn HG9.out
    obtain ⟨n0, n1⟩ := HE2.hold.pt (.head _)
    refine bodyPost_ret (v := .tuple #[.agg #[.slice A1 on.length cA, .slice A9 l'.length c9], .int .i64 0]) ?_ rfl ⟨HE2.hold.1, .inr ⟨HF.out, A1, cA, A9, c9, l', rfl, HMF.out, HE2.out, HE2.row, HE2.rs⟩⟩
    simp [results, Try.results13, go_sem, n0, n1]
set_option maxRecDepth 100000 in
set_option maxHeartbeats 8000000 in
theorem anewC_any (o : List (Int × Int)) (Ao : Option Addr) (co : Nat) (l : List PV) (Ap : Option Addr) (cp : Nat) (φ : List (Int × Int) → List (Int × Int)) (on : List (Int × Int)) (hon : nmL (φ o) = on) (gp : Nat) (hl : l.length ≤ 64) (ho : on.length ≤ 1000 ∧ (φ o).length ≤ maxLen) (hlx : ∀ x ∈ l, (nmL (φ x.par.ring)).length ≤ 1000 ∧ x.par.own.size ≤ maxLen ∧ (φ x.par.ring).length ≤ maxLen) (w : World) (h : PlanAt w o Ao co l Ap cp)
  (hfo : ∀ W, Below w.heap.size w W → Calls Try.prog 22 #[.slice Ao o.length co, .pointer (some ⟨gp, 0, none⟩)] W fun e w' => RingTo W w' (φ o) e)
  (hfp : ∀ x ∈ l, ∀ W, Below w.heap.size w W → Calls Try.prog 22 #[.slice x.A x.par.ring.length x.cap, .pointer (some ⟨gp, 0, none⟩)] W fun e w' => RingTo W w' (φ x.par.ring) e) :
  Calls Try.prog 13 #[.agg #[.slice Ao o.length co, .slice Ap l.length cp], .func (.func 22) #[] #[.pointer (some ⟨gp, 0, none⟩)]] w fun e w' => BentAt w w' on (l.map (parB φ)) e := by
 have HFO := Lib.hid hfo
 have HFP := Lib.hid hfp
 have HLO := Lib.hid ho.2
 have HLN := Lib.hid ho.1
 have HLP := Lib.hid (fun x hx => (hlx x hx).2.2)
 have HLQ := Lib.hid (fun x hx => And.intro (hlx x hx).1 (hlx x hx).2.1)
 have HON := Lib.hid hon
 have HL64 := Lib.hid hl
 clear hfo hfp ho hlx hon
 have HPR := Lib.hid (fun W (hb : Below w.heap.size w W) => h.prs.on hb)
 have HPO := Lib.hid (fun W (hb : Below w.heap.size w W) => h.out.on hb)
 have HNI := Lib.hid h.nil
 have HRO := Lib.hid h.room
 have HQ := ((Hold.refl w).new #[.slice Ao o.length co, .slice Ap l.length cp] 26).new' #[.slice none 0 0, .slice none 0 0] 26 (n := w.heap.size + 1) (by simp)
 clear h
 go_enter Try.func13, Try.ntmps13
 go_upto_region 1 with (fail)
 generalize (World.alloc (World.alloc w _) _) = W1 at HQ ⊢
 generalize w.heap.size + 1 = g2 at HQ ⊢
 obtain ⟨g1, hg1⟩ : ∃ g, w.heap.size = g := ⟨_, rfl⟩
 have HG1 := Lib.hid hg1
 rw [hg1] at HQ ⊢
 clear hg1
 obtain ⟨c0, c1⟩ := HQ.pt (List.mem_cons_of_mem _ List.mem_cons_self)
 have HQX := Lib.hid HQ
 have hz1 := HQX.out.lt (List.mem_cons_of_mem _ List.mem_cons_self)
 clear HQ
 go_upto_region 2 with (first
  |(go_at_call 22; go_must (refine (HFO.out _ HQX.out.1).mono ?_; rintro e' Wa ⟨Aa, ca, rfl, hba, hpa, -, hca⟩; have hqa := HQX.out.on hba; have HQa := Lib.hid hqa; have HPa := Lib.hid hpa; have HCa := Lib.hid hca; clear hqa hba hpa hca))
  |(go_at_call 28; go_must (refine (begun_any _ _ _ HLO.out HCa.out _ HPa.out).mono ?_; rintro e' W2 ⟨v1, rfl, HR1⟩; rw [HON.out] at HR1; have hq2 := HQa.out.on HR1.1; have hr1 := HR1.base HQa.out.1; obtain ⟨A1, cA, rfl, -, hn1, hc1⟩ := hr1.full; have HN1 := Lib.hid hn1; have HC1 := Lib.hid hc1; have HR2 := Lib.hid hr1; have HQ2 := Lib.hid hq2; clear HR1 hr1 hn1 hc1 hq2)))
 clear c0 c1 hz1
 have HQ3 := HQ2.out.new #[.slice A1 on.length cA, .slice none 0 0] 26
 have HR3 := HR2.out.alloc (Obj.cells #[.slice A1 on.length cA, .slice none 0 0] 26 (0, 0))
 generalize (World.alloc _ _) = W3 at HQ3 HR3 ⊢
 generalize W2.heap.size = g3 at HQ3 ⊢
 clear HQX
 obtain ⟨c0, c1⟩ := HQ3.pt (List.mem_cons_of_mem _ (List.mem_cons_of_mem _ List.mem_cons_self))
 have HQY := Lib.hid HQ3
 have HRY := Lib.hid HR3
 clear HQ3 HR3 HR2 HQ2
 go_wp2_with fail
 clear c0 c1
 go_loopg [18] l.length (fun g i wr => ∃ (k : Nat) (v : Value) (l' : List PV), k ≤ l.length ∧ g = l.length - k ∧ i = .int .i64 k ∧ l'.map PV.par = (l.take k).map (parB φ) ∧ Row w (.slice A1 on.length cA) on wr ∧ RowI w 39 3 encV v l' wr ∧ OwnRs w l' wr ∧ Hold w [(g3, #[.slice A1 on.length cA, v], 26), (g2, #[.slice none 0 0, .slice none 0 0], 26), (g1, #[.slice Ao o.length co, .slice Ap l.length cp], 26)] wr)
 case atStart => exact ⟨0, .slice none 0 0, [], Nat.zero_le _, rfl, rfl, rfl, HRY.out, RowI.nil HRY.out.1, (fun x hx => (by cases hx)), HQY.out⟩
 case round =>
  obtain ⟨k, v, l', hk, hgk, rfl, hmap, HO, HV, HOR, HB⟩ := hrel
  have HGK := Lib.hid hgk
  have HMAP := Lib.hid hmap
  clear hgk hmap
  obtain ⟨c0, c1'⟩ := HB.pt (List.mem_cons_of_mem _ (List.mem_cons_of_mem _ List.mem_cons_self))
  by_cases hlt : k < l.length
  ·have hw := HPR.out _ HB.1
   obtain ⟨ad, rfl, -, d0, d1, d2⟩ := hw.at hlt
   obtain ⟨hp, hnil, hsz⟩ := hw.2 l[k] (List.getElem_mem hlt)
   have b0 : (0 : Int) ≤ (k : Int) := by omega
   have b1 : (k : Int) < (l.length : Int) := by omega
   have HMT : Hid ((l.take (k + 1)).map (parB φ) = (l.take k).map (parB φ) ++ [parB φ l[k]]) := by
    unfold Hid
    rw [List.take_succ_eq_append_getElem hlt, List.map_append]; rfl
   have HLL : Hid (l'.length ≤ 1000000) := by
    have := congrArg List.length HMAP.out
    rw [List.length_map, List.length_map, List.length_take] at this
    unfold Hid; omega
   have HP := Lib.hid hp
   have HNL := Lib.hid hnil
   have HSZ := Lib.hid hsz
   clear hw hp hnil hsz
   have HF5 := Lib.hid (HFP.out l[k] (List.getElem_mem hlt))
   have HL5 := Lib.hid (HLP.out l[k] (List.getElem_mem hlt))
   have HPB : Hid (parB φ l[k] = ⟨l[k].par.id, nmL (φ l[k].par.ring), l[k].par.own⟩) := rfl
   rw [HPB.out] at HMT
   clear HPB
   generalize l[k].par = x at *
   generalize l[k].A = Ak at *
   generalize l[k].cap = ck at *
   generalize hrf : φ x.ring = rf at *
   clear hrf
   go_upto_region 5 with (fail)
   have hb1 := (Below.refl wr.heap.size wr).alloc (Nat.le_refl _) (.cells #[.int .i64 x.id, .slice Ak x.ring.length ck, .string x.own] 39 (0, 0))
   have HQ := HB.new #[.int .i64 x.id, .slice Ak x.ring.length ck, .string x.own] 39
   have HO1 := HO.on hb1
   have HV1 := HV.on hb1
   have HOR1 := HOR.on hb1
   have HNV := Lib.hid (HV.row_ne (Nat.le_refl _))
   clear HB HP HO HV HOR hb1 d0 d1 d2 c0 c1'
   generalize (World.alloc _ _) = W5 at HQ HO1 HV1 HOR1 ⊢
   generalize wr.heap.size = g5 at HQ HNV ⊢
   have k1 := HQ.cell (.head _) 1
   simp only [List.getElem?_toArray, List.getElem?_cons_zero, List.getElem?_cons_succ] at k1
   have hz5 := HQ.lt (.head _)
   have HQ5 := Lib.hid HQ
   have HO5 := Lib.hid HO1
   have HV5 := Lib.hid HV1
   have HOR5 := Lib.hid HOR1
   clear HQ HO1 HV1 HOR1
   go_upto_region 6 with (first
    |(go_at_call 22; go_must (refine (HF5.out _ HQ5.out.1).mono ?_; rintro e' Wb ⟨Ab, cb, rfl, hbb, hpb, -, hcb⟩; have HQb := Lib.hid (HQ5.out.on hbb); have HOb := Lib.hid (HO5.out.on hbb); have HVb := Lib.hid (HV5.out.on hbb); have HORb := Lib.hid (HOR5.out.on hbb); have HPb := Lib.hid hpb; have HCb := Lib.hid hcb; clear hbb hpb hcb))
    |(go_at_call 28; go_must (refine (begun_any _ _ _ HL5.out HCb.out _ HPb.out).mono ?_; rintro e' W6 ⟨v6, rfl, HR6⟩; have hq6 := HQb.out.on HR6.1; have hr6 := HR6.base HQb.out.1; obtain ⟨A6, c6, rfl, -, hn6, hc6⟩ := hr6.full; have k6 := hq6.frozen (.head _) 1; have HN6 := Lib.hid hn6; have HC6 := Lib.hid hc6; have HR7 := Lib.hid hr6; have HQ6 := Lib.hid hq6; have HO6 := Lib.hid (HOb.out.on HR6.1); have HV6 := Lib.hid (HVb.out.on HR6.1); have HOR6 := Lib.hid (HORb.out.on HR6.1); have k7 := hq6.cell (.head _) 1; clear HR6 hr6 hn6 hc6 hq6)))
   clear k1 hz5
   generalize hrn : nmL rf = rn at *
   clear hrn
   have HQ7 : Hold w [(g5, #[.int .i64 x.id, .slice A6 rn.length c6, .string x.own], 39), (g3, #[.slice A1 on.length cA, v], 26), (g2, #[.slice none 0 0, .slice none 0 0], 26), (g1, #[.slice Ao o.length co, .slice (some ad) l.length cp], 26)] (W6.setCell ⟨g5, 1, none⟩ (.slice A6 rn.length c6)) := HQ6.out.set 1 (.slice A6 rn.length c6)
   have hh5 := (HQ6.out.2.1 _ (.head _)).1
   have HV7 : RowI w 39 3 encV v l' (W6.setCell ⟨g5, 1, none⟩ (.slice A6 rn.length c6)) := ⟨HQ7.1, row_far_set HV6.out.2 HNV.out 1 _⟩
   have HO7 : Row w (.slice A1 on.length cA) on (W6.setCell ⟨g5, 1, none⟩ (.slice A6 rn.length c6)) := ⟨HQ7.1, row_far_set HO6.out.2 (row_block HO6.out.2 hh5 (show (39 : Nat) ≠ 28 by decide)) 1 _⟩
   have HOR7 := HOR6.out.set hh5 (show (39 : Nat) ≠ 28 by decide) 1 (.slice A6 rn.length c6)
   have HNR7 := row_far_set HR7.out.2 (row_block HR7.out.2 hh5 (show (39 : Nat) ≠ 28 by decide)) 1 (.slice A6 rn.length c6)
   have HOX : Hid (OwnRs w (l' ++ [⟨⟨x.id, rn, x.own⟩, A6, c6⟩]) (W6.setCell ⟨g5, 1, none⟩ (.slice A6 rn.length c6))) := fun y hy => by
    rcases List.mem_append.1 hy with hy | hy
    ·exact HOR7 y hy
    ·obtain rfl := List.mem_singleton.1 hy
     exact HNR7
   clear hh5 HOR7 HNR7 HV6 HO6 HOR6 HR7 HQ6 HQ5 HO5 HV5 HOR5 HQb HOb HVb HORb HPb HCb k6 k7
   generalize (World.setCell W6 _ _) = W7 at HQ7 HV7 HO7 HOX ⊢
   have k0 := HQ7.cell (.head _) 0
   have k1 := HQ7.cell (.head _) 1
   have k2 := HQ7.cell (.head _) 2
   have m1 := HQ7.cell (List.mem_cons_of_mem _ List.mem_cons_self) 1
   simp only [List.getElem?_toArray, List.getElem?_cons_zero, List.getElem?_cons_succ] at k0 k1 k2 m1
   have HNG3 := Lib.hid (HV7.apart (HQ7.2.1 _ (List.mem_cons_of_mem _ List.mem_cons_self)).1 (show (26 : Nat) ≠ 39 by decide))
   have HNG2 := Lib.hid (HV7.apart (HQ7.2.1 _ (List.mem_cons_of_mem _ (List.mem_cons_of_mem _ List.mem_cons_self))).1 (show (26 : Nat) ≠ 39 by decide))
   have HNG1 := Lib.hid (HV7.apart (HQ7.2.1 _ (List.mem_cons_of_mem _ (List.mem_cons_of_mem _ (List.mem_cons_of_mem _ List.mem_cons_self)))).1 (show (26 : Nat) ≠ 39 by decide))
   have HV8 := Lib.hid HV7
   have HQ8 := Lib.hid HQ7
   have HO8 := Lib.hid HO7
   clear HV7 HQ7 HO7
   go_wp2_with (at_builtin; go_must (refine append_itemG kindV Try.underlying24 HV8.out ⟨⟨x.id, rn, x.own⟩, A6, c6⟩ 39 #[.int .i64 x.id, .slice A6 rn.length c6, .string x.own] rfl (by have := HLL.out; unfold maxLen; omega) (by have := HLL.out; omega) rfl _ _ rfl rfl 1 rfl ?_; rintro v9 w9 HR9 hg9; have hq9 := Hold.grow (HQ8.out.alloc (Obj.cells #[.int .i64 x.id, .slice A6 rn.length c6, .string x.own] 39 (0, 0))) HR9.1 hg9 (fun e he => by rcases List.mem_cons.1 he with rfl | he; exact HNV.out; rcases List.mem_cons.1 he with rfl | he; exact HNG3.out; rcases List.mem_cons.1 he with rfl | he; exact HNG2.out; rcases List.mem_cons.1 he with rfl | he; exact HNG1.out; cases he); have HX9 := Lib.hid (OwnRs.grow (OwnRs.alloc HOX.out (Obj.cells #[.int .i64 x.id, .slice A6 rn.length c6, .string x.own] 39 (0, 0))) (HV8.out.alloc (Obj.cells #[.int .i64 x.id, .slice A6 rn.length c6, .string x.own] 39 (0, 0))).2 (show (28 : Nat) ≠ 39 by decide) hg9); have HO9 := Lib.hid (((HO8.out.alloc (Obj.cells #[.int .i64 x.id, .slice A6 rn.length c6, .string x.own] 39 (0, 0))).2).kept hg9 (rows_apart (HO8.out.alloc (Obj.cells #[.int .i64 x.id, .slice A6 rn.length c6, .string x.own] 39 (0, 0))).2 (HV8.out.alloc (Obj.cells #[.int .i64 x.id, .slice A6 rn.length c6, .string x.own] 39 (0, 0))).2 (show (28 : Nat) ≠ 39 by decide))); obtain ⟨A9, c9, hv9, -, -⟩ := HR9.items; have hl9 : (l' ++ [(⟨⟨x.id, rn, x.own⟩, A6, c6⟩ : PV)]).length = l'.length + 1 := (by simp); rw [hl9] at hv9; have HRR := Lib.hid HR9; have z1 := hq9.frozen (List.mem_cons_of_mem _ List.mem_cons_self) 1; have z2 := hq9.cell (List.mem_cons_of_mem _ List.mem_cons_self) 1; have HQ9 := Lib.hid hq9; subst hv9; clear HR9 hg9 hq9 hl9))
   have HQ10 : Hold w [(g3, #[.slice A1 on.length cA, .slice A9 (l'.length + 1) c9], 26), (g2, #[.slice none 0 0, .slice none 0 0], 26), (g1, #[.slice Ao o.length co, .slice (some ad) l.length cp], 26)] _ := HQ9.out.tail.set 1 (.slice A9 (l'.length + 1) c9)
   have hh3 := (HQ9.out.2.1 _ (List.mem_cons_of_mem _ List.mem_cons_self)).1
   have hv10 : RowI w 39 3 encV (.slice A9 (l'.length + 1) c9) (l' ++ [(⟨⟨x.id, rn, x.own⟩, A6, c6⟩ : PV)]) (w9.setCell ⟨g3, 1, none⟩ (.slice A9 (l'.length + 1) c9)) := ⟨HQ10.1, row_far_set HRR.out.2 (row_block HRR.out.2 hh3 (show (26 : Nat) ≠ 39 by decide)) 1 _⟩
   have ho10 : Row w (.slice A1 on.length cA) on (w9.setCell ⟨g3, 1, none⟩ (.slice A9 (l'.length + 1) c9)) := ⟨HQ10.1, row_far_set HO9.out (row_block HO9.out hh3 (show (26 : Nat) ≠ 28 by decide)) 1 _⟩
   have hx10 := HX9.out.set hh3 (show (26 : Nat) ≠ 28 by decide) 1 (.slice A9 (l'.length + 1) c9)
   go_roundg (l.length - (k + 1))
   case measure => have := HGK.out; omega
   case rel => exact ⟨k + 1, _, l' ++ [(⟨⟨x.id, rn, x.own⟩, A6, c6⟩ : PV)], by omega, rfl, by go_num, by rw [HMT.out, List.map_append, HMAP.out]; rfl, ho10, hv10, hx10, HQ10⟩
  ·obtain rfl : k = l.length := by omega
   have HMF : Hid (l'.map PV.par = l.map (parB φ)) := by have := HMAP.out; rwa [List.take_length] at this
   obtain ⟨A9, c9, hv9, -, -⟩ := HV.items
   subst hv9
   have hog : Og w A1 on cA A9 l'.length l' c9 g3 [(g2, #[.slice none 0 0, .slice none 0 0], 26), (g1, #[.slice Ao o.length co, .slice Ap l.length cp], 26)] wr := ⟨HB, HO, HV, HOR⟩
   have hmem : ∀ x ∈ l', x.par.ring.length ≤ 1000 ∧ x.par.own.size ≤ maxLen := fun x hx => by
    have hm : x.par ∈ l.map (parB φ) := by rw [← HMF.out]; exact List.mem_map_of_mem hx
    obtain ⟨y, hy, e⟩ := List.mem_map.1 hm
    have := HLQ.out y hy
    rw [← e]
    exact this
   have hll : l'.length = l.length := by have := congrArg List.length HMF.out; rwa [List.length_map, List.length_map] at this
   have h64 := HL64.out
   have HCK := Lib.hid (check_any (by omega) (by have := HLN.out; omega) (fun x hx => (hmem x hx).2) (hog.plan rfl HLN.out (fun x hx => (hmem x hx).1)))
   have HQC : Hid (chkB on l' = chkQ on (l.map (parB φ))) := by unfold Hid; rw [chkQ_of, HMF.out]
   have HOG := Lib.hid hog
   obtain ⟨m0, m1⟩ := hog.hold.pt (.head _)
   have a3 : ¬ ((l.length : Int) < (l.length : Int)) := by omega
   clear hog hmem hll h64 HB HO HV HOR hk
   go_wp2_with fail
   go_at_call 23
   refine HCK.out.mono ?_
   rintro e' W9 ⟨rfl, hB9⟩
   have hog9 := HOG.out.on hB9
   have HG9 := Lib.hid hog9
   clear hB9 m0 m1 a3
   obtain ⟨m0, m1⟩ := hog9.hold.pt (.head _)
   obtain ⟨y0, y1⟩ := hog9.hold.pt (.tail _ (.head _))
   obtain ⟨z0, z1⟩ := hog9.hold.fz (.tail _ (.head _))
   clear hog9
   cases hcb : chkB on l'
   ·rw [ckR_false hcb]
    have HF := Lib.hid (HQC.out.symm.trans hcb)
    clear hcb
    go_wp2
    have HE2 := HG9.out.hold.swap2 (.slice none 0 0) (.slice none 0 0)
    obtain ⟨n0, n1⟩ := HE2.pt (.tail _ (.head _))
    refine bodyPost_ret (v := .tuple #[.agg #[.slice none 0 0, .slice none 0 0], .int .i64 8]) ?_ rfl ⟨HE2.1, .inl ⟨HF.out, rfl⟩⟩
    simp [results, Try.results13, go_sem, n0, n1]
   ·rw [ckR_true hcb]
    have HF := Lib.hid (HQC.out.symm.trans hcb)
    clear hcb
    go_wp2
    have HE2 := Og.setIn HG9.out
    obtain ⟨n0, n1⟩ := HE2.hold.pt (.head _)
    refine bodyPost_ret (v := .tuple #[.agg #[.slice A1 on.length cA, .slice A9 l'.length c9], .int .i64 0]) ?_ rfl ⟨HE2.hold.1, .inr ⟨HF.out, A1, cA, A9, c9, l', rfl, HMF.out, HE2.out, HE2.row, HE2.rs⟩⟩
    simp [results, Try.results13, go_sem, n0, n1]
end Go.Proofs.Ytfjfmieadedjoaa
