/- The program's cut: what keeps a path from being one. -/
import Derived.Test.YtfjfmieadedjoaaCutC
import Derived.Test.YtfjfmieadedjoaaGeoAns
import Derived.Test.YtfjfmieadedjoaaCutM
import Derived.Test.YtfjfmieadedjoaaPlanB
import Derived.Test.YtfjfmieadedjoaaCutH
import Derived.Test.YtfjfmieadedjoaaFind
namespace Go.Proofs.Ytfjfmieadedjoaa
open Go.RowKit

end Go.Proofs.Ytfjfmieadedjoaa

namespace Go.Proofs.Ytfjfmieadedjoaa
open Go.RowKit

end Go.Proofs.Ytfjfmieadedjoaa

namespace Go.Proofs.Ytfjfmieadedjoaa
open Go.RowKit

def ringT (r : List (Int × Int)) : Bool := decide (3 ≤ r.length) && decide (r.length ≤ 128) && gdL r && decide (0 < area r) && ((List.range r.length).all fun j => (List.range j).all fun i => decide (nx r i ≠ nx r j) && decide (meetN (nx r i) (nx r (i + 1)) (nx r j) (nx r (j + 1)) = if nxB r.length i j then 1 else 0)) && ((List.range r.length).all fun i => !(lessB (nx r i) (nx r 0)))
theorem ringT_norm {r : List (Int × Int)} (h : ringT r = true) : NormP r := by
 unfold ringT at h
 simp only [Bool.and_eq_true, decide_eq_true_eq, List.all_eq_true, List.mem_range, Bool.not_eq_true'] at h
 obtain ⟨⟨⟨⟨⟨h1, h2⟩, h3⟩, h4⟩, h5⟩, h6⟩ := h
 have ha : arE r = 0 := arE_zero.2 ⟨h2, h3⟩
 have hs : Sound r := sound_iff.2 ⟨h1, h4, fun i j hij hj => (apart_test h1 hij hj).2 (h5 j hj i hij)⟩
 exact normP_iff.2 ⟨chE_sound ha hs, h6⟩
def pairT (a b : (Int × Int) × (Int × Int)) : Bool := let m := meetN a.1 a.2 b.1 b.2
 decide (m ≠ 2) && (decide (m ≠ 1) || decide (a.1 = b.1) || decide (a.1 = b.2) || decide (a.2 = b.1) || decide (a.2 = b.2)) && (decide (m ≠ 3) || decide (a = bk b))
theorem pairT_pair {a b : (Int × Int) × (Int × Int)} (h : pairT a b = true) : meet a.1 a.2 b.1 b.2 ≠ 2 ∧ (meet a.1 a.2 b.1 b.2 = 1 → a.1 = b.1 ∨ a.1 = b.2 ∨ a.2 = b.1 ∨ a.2 = b.2) ∧ (meet a.1 a.2 b.1 b.2 = 3 → a = bk b) := by
 unfold pairT at h
 rw [meetN_eq] at h
 simp only [Bool.and_eq_true, Bool.or_eq_true, decide_eq_true_eq] at h
 obtain ⟨⟨h1, h2⟩, h3⟩ := h
 refine ⟨h1, fun e => ?_, fun e => ?_⟩
 ·rcases h2 with (((h | h) | h) | h) | h
  ·exact absurd e h
  ·exact .inl h
  ·exact .inr (.inl h)
  ·exact .inr (.inr (.inl h))
  ·exact .inr (.inr (.inr h))
 ·rcases h3 with h | h
  ·exact absurd e h
  ·exact h
def fitT (o : List (Int × Int)) (es : List ((Int × Int) × (Int × Int))) : Bool :=
 ((List.range es.length).all fun j => (List.range j).all fun i => decide (es.getD i ((0, 0), (0, 0)) ≠ es.getD j ((0, 0), (0, 0))) && pairT (es.getD i ((0, 0), (0, 0))) (es.getD j ((0, 0), (0, 0)))) && ((edg o).all fun e => decide (e ∈ es)) && (es.all fun e => decide (e ∈ edg o) != decide (bk e ∈ es))
theorem fitT_fit {o : List (Int × Int)} {L : List (List (Int × Int))} (ho : Sound o) (hs : ∀ r ∈ L, Sound r) (h : fitT o (edgs L) = true) : Fit o L := by
 unfold fitT at h
 simp only [Bool.and_eq_true, List.all_eq_true, List.mem_range, decide_eq_true_eq, bne_iff_ne, ne_eq] at h
 obtain ⟨⟨h1, h2⟩, h3⟩ := h
 have hg : ∀ i (hi : i < (edgs L).length), (edgs L).getD i ((0, 0), (0, 0)) = (edgs L)[i] := fun i hi => by simp [List.getD_eq_getElem?_getD, List.getElem?_eq_getElem hi]
 have hp : ∀ i j (hij : i < j) (hj : j < (edgs L).length), (edgs L)[i] ≠ (edgs L)[j] ∧ pairT (edgs L)[i] (edgs L)[j] = true := fun i j hij hj => by
  have := h1 j hj i hij
  rw [hg i (by omega), hg j hj] at this
  exact this
 refine fit_of ho hs (fun i hi => ⟨fun j hj => (hp j i hj hi).1, ?_⟩) (fun i j hij hj => pairT_pair (hp i j hij hj).2) h2
 have h4 := h3 _ (List.getElem_mem hi)
 constructor
 ·intro h5 h6
  exact h4 (by rw [decide_eq_true h5, decide_eq_true h6])
 ·intro h5
  by_cases h6 : (edgs L)[i] ∈ edg o
  ·exact h6
  ·exact absurd (by rw [decide_eq_false h6, decide_eq_false h5]) h4
def planT (o : List (Int × Int)) (ps : List Par) : Bool := ringT o && (ps.all fun x => ringT x.ring && idB x.id) && decide (ps.Pairwise fun a b => a.id < b.id) && decide (1 ≤ ps.length ∧ ps.length ≤ 64) && decide (o.length + sumL (fun x => (x.ring.length : Int)) ps ≤ 1024) && decide (sumL (fun x => area x.ring) ps = area o) && fitT o (edgs (ringsQ ps))
theorem planT_plan {o : List (Int × Int)} {ps : List Par} (h : planT o ps = true) (hown : ∀ x ∈ ps, OwnOk x.own) : PlanQ o ps := by
 unfold planT at h
 simp only [Bool.and_eq_true, List.all_eq_true, decide_eq_true_eq] at h
 obtain ⟨⟨⟨⟨⟨⟨h1, h2⟩, h3⟩, h4⟩, h5⟩, h6⟩, h7⟩ := h
 exact ⟨⟨h3, fun x hx => ⟨(h2 x hx).2, hown x hx⟩, h4.1, h4.2, h5⟩, ringT_norm h1, fun x hx => ringT_norm (h2 x hx).1, h6, fitT_fit (norm_sound (ringT_norm h1)) (fun r hr => by
  obtain ⟨x, hx, rfl⟩ := List.mem_map.1 hr
  exact norm_sound (ringT_norm (h2 x hx).1)) h7⟩
def noOwn : ByteArray := ⟨#[]⟩
theorem noOwn_ok : OwnOk noOwn := ⟨fun j hj => absurd hj (by unfold noOwn; simp [ByteArray.size]), by decide⟩
end Go.Proofs.Ytfjfmieadedjoaa

namespace Go.Proofs.Ytfjfmieadedjoaa
open Go.RowKit

section
variable {o : List (Int × Int)} {ps : List Par} {id : Int} {path : List (Int × Int)} {fresh : Int}
theorem PlanQ.ringP (h : PlanQ o ps) {x : Par} (hx : x ∈ ps) : Sound x.ring ∧ gdL x.ring = true ∧ x.ring.length ≤ 128 := by
 obtain ⟨h1, h2, h3⟩ := normP_small (h.each x hx)
 exact ⟨norm_sound (h.each x hx), gdL_iff.2 h3, h2⟩
theorem PlanQ.outP (h : PlanQ o ps) : Sound o ∧ gdL o = true ∧ o.length ≤ 128 := by
 obtain ⟨h1, h2, h3⟩ := normP_small h.out
 exact ⟨norm_sound h.out, gdL_iff.2 h3, h2⟩
end
theorem planAt_of {w W : World} {o : List (Int × Int)} {A1 Ap1 : Option Addr} {c1 cp1 : Nat} {l' : List PV} (h1 : Row w (.slice A1 o.length c1) o W) (h2 : RowI w 39 3 encV (.slice Ap1 l'.length cp1) l' W) (h3 : OwnRs w l' W) (ho : o.length ≤ 1000) (hl : ∀ x ∈ l', x.par.ring.length ≤ 1000) : PlanAt W o A1 c1 l' Ap1 cp1 := by
 obtain ⟨i1, -, -⟩ := h2.full
 obtain ⟨j1, j2, j3⟩ := h1.whole
 have hr := fun x hx => (show Row w (.slice x.A x.par.ring.length x.cap) x.par.ring W from ⟨h1.1, h3 x hx⟩).whole
 exact ⟨⟨i1, fun x hx => ⟨(hr x hx).1, (hr x hx).2.1, by have := hl x hx; omega⟩⟩, j1, j2, by omega, j3, fun x hx => (hr x hx).2.2⟩
theorem PlanQ.ids {o : List (Int × Int)} {ps : List Par} (h : PlanQ o ps) : (idsQ ps).Nodup := by
 unfold idsQ
 exact List.pairwise_map.2 (h.fine.1.imp fun h => by omega)

end Go.Proofs.Ytfjfmieadedjoaa

namespace Go.Proofs.Ytfjfmieadedjoaa
open Go.RowKit

end Go.Proofs.Ytfjfmieadedjoaa

namespace Go.Proofs.Ytfjfmieadedjoaa
open Go.RowKit

def FewAt (w : World) (o : List (Int × Int)) (l : List PV) (e : Ending) (w' : World) : Prop := ∃ b : Bool, e = .returned (.bool b) ∧ (b = true → o.length ≤ 300 ∧ cornN o l l.length ≤ 300 ∧ l.length ≤ 80) ∧ Below w.heap.size w w'
def gP : List Par := [⟨1, gvR, noOwn⟩]
theorem gP_plan : PlanQ gvR gP := planT_plan (by decide +kernel) (fun x hx => by rw [List.mem_singleton.1 hx]; exact noOwn_ok)
end Go.Proofs.Ytfjfmieadedjoaa

namespace Go.Proofs.Ytfjfmieadedjoaa
open Go.RowKit

section
variable {o : List (Int × Int)} {ps : List Par} {id : Int} {path : List (Int × Int)} {fresh : Int}
end
end Go.Proofs.Ytfjfmieadedjoaa
