/- The document's parcels of a cut, each begun at its least corner whether it is sound or not, make a plan where ours do, and then they are ours. -/
import Derived.Test.YtfjfmieadedjoaaCutV
import Derived.Test.YtfjfmieadedjoaaRefLeast
import Derived.Test.YtfjfmieadedjoaaRefChk
import Derived.Test.YtfjfmieadedjoaaCutM
namespace Go.Proofs.Ytfjfmieadedjoaa
open Go.RowKit

section
variable {o : List (Int × Int)} {ps : List Par} {id : Int} {path : List (Int × Int)} {fresh : Int}
end
end Go.Proofs.Ytfjfmieadedjoaa

namespace Go.Proofs.Ytfjfmieadedjoaa
open Go.RowKit

end Go.Proofs.Ytfjfmieadedjoaa

namespace Go.Proofs.Ytfjfmieadedjoaa
open Go.RowKit

section
variable {o : List (Int × Int)} {ps : List Par} {id : Int} {path : List (Int × Int)} {fresh : Int} {f : List (Int × Int) → List (Int × Int)}
end
end Go.Proofs.Ytfjfmieadedjoaa

namespace Go.Proofs.Ytfjfmieadedjoaa
open Go.RowKit

def SndR (n : Nat) (r : List (Int × Int)) : Prop := Sound r ∧ gdL r = true ∧ r.length ≤ n ∧ Nrm r
def SndP (n : Nat) (o : List (Int × Int)) (qs : List Par) : Prop := SndR n o ∧ (∀ x ∈ qs, SndR n x.ring) ∧ qs.length ≤ 64
theorem PlanQ.snd {o : List (Int × Int)} {ps : List Par} (h : PlanQ o ps) : SndP 128 o ps :=
 ⟨⟨h.outP.1, h.outP.2.1, h.outP.2.2, (normP_iff.1 h.out).2⟩, fun x hx => ⟨(h.ringP hx).1, (h.ringP hx).2.1, (h.ringP hx).2.2, (normP_iff.1 (h.each x hx)).2⟩, h.fine.2.2.2.1⟩
theorem SndR.put {n : Nat} {r : List (Int × Int)} {p : Int × Int} (h : SndR n r) (hp : Gd p) : SndR (n + 1) (putC r p) :=
 ⟨(putC_sound h.1 p).2.1, gdL_iff.2 fun q hq => by
  rcases mem_putC hq with h1 | rfl
  ·exact gdL_iff.1 h.2.1 _ h1
  ·exact hp, by have := putC_len r p; have := h.2.2.1; omega, nrm_putC h.2.2.2 p⟩
theorem SndP.put {n : Nat} {o : List (Int × Int)} {qs : List Par} {p : Int × Int} (h : SndP n o qs) (hp : Gd p) : SndP (n + 1) (putC o p) (qs.map (ptP p)) :=
 ⟨h.1.put hp, fun x hx => by
  obtain ⟨y, hy, rfl⟩ := List.mem_map.1 hx
  exact (h.2.1 y hy).put hp, by rw [List.length_map]; exact h.2.2⟩
theorem lsR_snd {n : Nat} {r : List (Int × Int)} (h : SndR n r) : lsR r = r := lstR_nrm h.2.2.2
section
variable {w W : World} {A1 Ap : Option Addr} {o : List (Int × Int)} {c1 n cp g : Nat} {l : List PV} {K : List (Nat × Array Value × TypeId)} {x0 y0 : Value}
theorem Og.mkSet (hq : Hold w ((g, #[x0, y0], 26) :: K) W) (hr : Row w (.slice A1 o.length c1) o W) (hv : RowI w 39 3 encV (.slice Ap n cp) l W) (hrs : OwnRs w l W) : Og w A1 o c1 Ap n l cp g K ((W.setCell ⟨g, 0, none⟩ (.slice A1 o.length c1)).setCell ⟨g, 1, none⟩ (.slice Ap n cp)) := by
 have p1 : (26 : Nat) ≠ 39 := by decide
 have p2 : (26 : Nat) ≠ 28 := by decide
 have h1 := (hq.2.1 _ (.head _)).1
 have h2 := ((hq.set 0 (.slice A1 o.length c1)).2.1 _ (.head _)).1
 have hE := hq.set2 (.slice A1 o.length c1) (.slice Ap n cp)
 exact ⟨hE, ⟨hE.1, row_far_set (row_far_set hr.2 (row_block hr.2 h1 p2) _ _) (row_block hr.2 h1 p2) _ _⟩, ⟨hE.1, row_far_set (row_far_set hv.2 (row_block hv.2 h1 p1) _ _) (row_block hv.2 h1 p1) _ _⟩, (hrs.set h1 p2 0 _).set h2 p2 1 _⟩
theorem Og.mkNew (hq : Hold w K W) (hr : Row w (.slice A1 o.length c1) o W) (hv : RowI w 39 3 encV (.slice Ap n cp) l W) (hrs : OwnRs w l W) : Og w A1 o c1 Ap n l cp W.heap.size K (W.alloc (Obj.cells #[.slice A1 o.length c1, .slice Ap n cp] 26 (0, 0))) := by
 have hb := (Below.refl _ W).alloc (Nat.le_refl _) (Obj.cells #[.slice A1 o.length c1, .slice Ap n cp] 26 (0, 0))
 exact ⟨hq.new _ _, hr.on hb, hv.on hb, hrs.on hb⟩
theorem Og.more (h : Og w A1 o c1 Ap l.length l cp g K W) {y : PV} {v' : Value} {W' : World} (hy : W.ownsRow w.heap.size 28 2 (.slice y.A y.par.ring.length y.cap) y.par.ring.length (flatP y.par.ring)) (hK : ∀ e ∈ K, e.2.2 ≠ 39)
  (hv : RowI w 39 3 encV v' (l ++ [y]) W') (hg : W.grownBy W' (Value.slice Ap l.length cp).ownBlock) :
  Hold w ((g, #[.slice A1 o.length c1, .slice Ap l.length cp], 26) :: K) W' ∧ Row w (.slice A1 o.length c1) o W' ∧ OwnRs w (l ++ [y]) W' := by
 have p1 : (28 : Nat) ≠ 39 := by decide
 refine ⟨Hold.grow h.hold hv.1 hg fun e he => ?_, ⟨hv.1, h.out.2.kept hg (rows_apart h.out.2 h.row.2 p1)⟩, fun x hx => ?_⟩
 ·refine h.row.apart (h.hold.2.1 e he).1 ?_
  rcases List.mem_cons.1 he with rfl | he
  ·exact (show (26 : Nat) ≠ 39 by decide)
  ·exact hK e he
 ·rcases List.mem_append.1 hx with hx | hx
  ·exact (h.rs x hx).kept hg (rows_apart (h.rs x hx) h.row.2 p1)
  ·obtain rfl := List.mem_singleton.1 hx
   exact hy.kept hg (rows_apart hy h.row.2 p1)
end
section
variable {o : List (Int × Int)} {ps : List Par} {id : Int} {path : List (Int × Int)} {fresh : Int}
end
end Go.Proofs.Ytfjfmieadedjoaa
