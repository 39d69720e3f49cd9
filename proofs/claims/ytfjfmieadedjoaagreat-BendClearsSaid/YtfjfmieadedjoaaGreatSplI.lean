/- The document's parcels of a cut, each begun at its least corner whether it is sound or not, make a plan where ours do, and then they are ours. -/
import Derived.Test.YtfjfmieadedjoaaGreatCutV
import Derived.Test.YtfjfmieadedjoaaGreatRefLeast
import Derived.Test.YtfjfmieadedjoaaGreatRefChk
import Derived.Test.YtfjfmieadedjoaaGreatCutM
namespace Go.Proofs.YtfjfmieadedjoaaGreat
open Go.RowKit

section
variable {o : List (Int × Int)} {ps : List Par} {id : Int} {path : List (Int × Int)} {fresh : Int}
end
end Go.Proofs.YtfjfmieadedjoaaGreat

namespace Go.Proofs.YtfjfmieadedjoaaGreat
open Go.RowKit

theorem lsR_length (r : List (Int × Int)) : (lsR r).length = r.length := rotL_length _ _
def DoneAt (w w' : World) (o : List (Int × Int)) (qs : List Par) (e : Ending) : Prop :=
 Below w.heap.size w w' ∧ ((chkQ o qs = false ∧ e = .returned (.tuple #[.agg #[.slice none 0 0, .slice none 0 0], .int .i64 8])) ∨
  (chkQ o qs = true ∧ ∃ A1 c1 l' Ap1 cp1, e = .returned (.tuple #[.agg #[.slice A1 o.length c1, .slice Ap1 l'.length cp1], .int .i64 0]) ∧ l'.map PV.par = qs ∧ Row w (.slice A1 o.length c1) o w' ∧ RowI w 45 3 encV (.slice Ap1 l'.length cp1) l' w' ∧ OwnRs w l' w'))
set_option maxRecDepth 100000 in
set_option maxHeartbeats 2000000 in
theorem done_own (o : List (Int × Int)) (Ao : Option Addr) (co : Nat) (l : List PV) (Ap : Option Addr) (cp : Nat) (hl : l.length ≤ 1000000) (ho : o.length ≤ 1000) (hls : ∀ x ∈ l, x.par.ring.length ≤ 1000) (hown : ∀ x ∈ l, x.par.own.size ≤ maxLen) (w : World) (h : PlanAt w o Ao co l Ap cp) :
  Calls Tryz.prog 32 #[.agg #[.slice Ao o.length co, .slice Ap l.length cp]] w fun e w' => DoneAt w w' (lsR o) (l.map fun x => lsP x.par) e := by
 have HLE := Lib.hid (fun K W (hh : Hold w K W) => Least_own o Ao co l Ap cp hl (by omega) (fun x hx => Nat.le_trans (hls x hx) (by decide)) W (h.on hh.1))
 have HLO : Hid (o.length ≤ 1000) := ho
 have HLS := Lib.hid hls
 have HOS := Lib.hid hown
 have HLL : Hid (l.length ≤ 1000000) := hl
 have HQ := ((Hold.refl w).new #[.slice Ao o.length co, .slice Ap l.length cp] 26).new' #[.slice none 0 0, .slice none 0 0] 26 (n := w.heap.size + 1) (by simp)
 clear h ho hls hown
 go_enter Tryz.func32, Tryz.ntmps32
 go_upto_region 1 with (fail)
 generalize (World.alloc (World.alloc w _) _) = W1 at HQ ⊢
 generalize w.heap.size + 1 = g2 at HQ ⊢
 obtain ⟨g1, hg1⟩ : ∃ g, w.heap.size = g := ⟨_, rfl⟩
 have HG1 := Lib.hid hg1
 rw [hg1] at HQ ⊢
 clear hg1
 obtain ⟨c0, c1⟩ := HQ.pt (.tail _ (.head _))
 have HQ1 := Lib.hid HQ
 clear HQ
 go_wp2_with fail
 go_at_call 60
 refine (HLE.out _ _ HQ1.out).mono ?_
 rintro e' W2 ⟨hB, A1, c1', l', Ap1, cp1, rfl, hm, hr, hv, hrs⟩
 have hg := (HQ1.out.on hB).new #[.slice A1 (lsR o).length c1', .slice Ap1 l'.length cp1] 26
 have hba := (Below.refl _ W2).alloc (Nat.le_refl _) (Obj.cells #[.slice A1 (lsR o).length c1', .slice Ap1 l'.length cp1] 26 (0, 0))
 have hr2 := (hr.base HQ1.out.1).on hba
 have hv2 := (hv.base HQ1.out.1).on hba
 have hrs2 := (OwnRs.base hrs HQ1.out.1).on hba
 have ho2 : Og w A1 (lsR o) c1' Ap1 l'.length l' cp1 W2.heap.size _ _ := ⟨hg, hr2, hv2, hrs2⟩
 have hmem : ∀ x ∈ l', ∃ y ∈ l, x.par = lsP y.par := fun x hx => by
  have hx' : x.par ∈ l.map fun x => lsP x.par := by rw [← hm]; exact List.mem_map_of_mem hx
  obtain ⟨y, hy, e⟩ := List.mem_map.1 hx'
  exact ⟨y, hy, e.symm⟩
 have hlen : l'.length = l.length := by have := congrArg List.length hm; rwa [List.length_map, List.length_map] at this
 have HPA := Lib.hid (ho2.plan rfl (by rw [lsR_length]; exact HLO.out) (fun x hx => by
  obtain ⟨y, hy, e⟩ := hmem x hx
  rw [e]
  show (lsR y.par.ring).length ≤ 1000
  rw [lsR_length]; exact HLS.out y hy))
 have HCH := Lib.hid (fun W (hp : PlanAt W (lsR o) A1 c1' l' Ap1 cp1) => by
  have hx := ref_chk (lsR o) A1 c1' l' Ap1 cp1 (by rw [hlen]; exact HLL.out) (by rw [lsR_length]; have := HLO.out; omega) (fun x hx => by
   obtain ⟨y, hy, e⟩ := hmem x hx
   rw [e]; exact HOS.out y hy) W hp.prs hp.out
  rw [chkQ_of, hm] at hx
  exact hx)
 have HM := Lib.hid hm
 clear c0 c1 hB hg hba hr hv hrs hr2 hv2 hrs2 HLE hmem hlen hm
 go_upto_region 2 with (fail)
 generalize (World.alloc _ _) = W3 at ho2 HPA ⊢
 generalize W2.heap.size = g3 at ho2 ⊢
 obtain ⟨c0, c1⟩ := ho2.hold.pt (.head _)
 have HO2 := Lib.hid ho2
 clear ho2
 go_wp2_with fail
 go_at_call 18
 refine (HCH.out _ HPA.out).mono ?_
 rintro e' W4 ⟨rfl, hB⟩
 have ho4 := HO2.out.on hB
 have HO4 := Lib.hid ho4
 clear c0 c1 hB HCH HPA
 obtain ⟨c0, c1⟩ := ho4.hold.pt (.head _)
 obtain ⟨y0, y1⟩ := ho4.hold.pt (.tail _ (.head _))
 obtain ⟨z0, z1⟩ := ho4.hold.fz (.tail _ (.head _))
 clear ho4
 have p1 : (26 : Nat) ≠ 45 := by decide
 have p2 : (26 : Nat) ≠ 28 := by decide
 cases hck : chkQ (lsR o) (l.map fun x => lsP x.par)
 ·have HC := Lib.hid hck
  clear hck
  go_wp2
  have HE2 := HO4.out.hold.swap2 (.slice none 0 0) (.slice none 0 0)
  obtain ⟨n0, n1⟩ := HE2.pt (.tail _ (.head _))
  refine bodyPost_ret (v := .tuple #[.agg #[.slice none 0 0, .slice none 0 0], .int .i64 8]) ?_ rfl ⟨HE2.1, .inl ⟨HC.out, rfl⟩⟩
  simp [results, Tryz.results32, go_sem, n0, n1]
 ·have HC := Lib.hid hck
  clear hck
  go_wp2
  have HE2 := HO4.out.hold.swap2 (.slice A1 (lsR o).length c1') (.slice Ap1 l'.length cp1)
  have hh2 := (HO4.out.hold.2.1 _ (.tail _ (.head _))).1
  have hh2' := ((HO4.out.hold.swap 0 (.slice A1 (lsR o).length c1')).2.1 _ (.tail _ (.head _))).1
  have hv := row_far_set (row_far_set HO4.out.row.2 (row_block HO4.out.row.2 hh2 p1) 0 (.slice A1 (lsR o).length c1')) (row_block HO4.out.row.2 hh2 p1) 1 (.slice Ap1 l'.length cp1)
  have ho := row_far_set (row_far_set HO4.out.out.2 (row_block HO4.out.out.2 hh2 p2) 0 (.slice A1 (lsR o).length c1')) (row_block HO4.out.out.2 hh2 p2) 1 (.slice Ap1 l'.length cp1)
  have hrs := (HO4.out.rs.set hh2 p2 0 (.slice A1 (lsR o).length c1')).set hh2' p2 1 (.slice Ap1 l'.length cp1)
  obtain ⟨n0, n1⟩ := HE2.pt (.tail _ (.head _))
  refine bodyPost_ret (v := .tuple #[.agg #[.slice A1 (lsR o).length c1', .slice Ap1 l'.length cp1], .int .i64 0]) ?_ rfl ⟨HE2.1, .inr ⟨HC.out, A1, c1', l', Ap1, cp1, rfl, HM.out, ⟨HE2.1, ho⟩, ⟨HE2.1, hv⟩, hrs⟩⟩
  simp [results, Tryz.results32, go_sem, n0, n1]
end Go.Proofs.YtfjfmieadedjoaaGreat

namespace Go.Proofs.YtfjfmieadedjoaaGreat
open Go.RowKit

section
variable {o : List (Int × Int)} {ps : List Par} {id : Int} {path : List (Int × Int)} {fresh : Int} {f : List (Int × Int) → List (Int × Int)}
end
end Go.Proofs.YtfjfmieadedjoaaGreat

namespace Go.Proofs.YtfjfmieadedjoaaGreat
open Go.RowKit

def SndR (n : Nat) (r : List (Int × Int)) : Prop := Sound r ∧ gdL r = true ∧ r.length ≤ n ∧ Nrm r
def SndP (n : Nat) (o : List (Int × Int)) (qs : List Par) : Prop := SndR n o ∧ (∀ x ∈ qs, SndR n x.ring) ∧ qs.length ≤ 64
theorem PlanQ.snd {o : List (Int × Int)} {ps : List Par} (h : PlanQ o ps) : SndP 128 o ps :=
 ⟨⟨h.outP.1, h.outP.2.1, h.outP.2.2, (normP_iff.1 h.out).2⟩, fun x hx => ⟨(h.ringP hx).1, (h.ringP hx).2.1, (h.ringP hx).2.2, (normP_iff.1 (h.each x hx)).2⟩, h.fine.2.2.2.1⟩
theorem SndR.put {n : Nat} {r : List (Int × Int)} {p : Int × Int} (h : SndR n r) (hp : Gd p) : SndR (n + 1) (putC r p) :=
 ⟨(putC_sound h.1 p).2.1, gdL_iff.2 fun q hq => by
  rcases mem_putC hq with h1 | rfl
  ·exact gdL_iff.1 h.2.1 _ h1
  ·exact hp, by have := putC_len r p; have := h.2.2.1; omega, nrm_putC h.2.2.2 p⟩
theorem SndP.put {n : Nat} {o : List (Int × Int)} {qs : List Par} {p : Int × Int} (h : SndP n o qs) (hp : Gd p) : SndP (n + 1) (putC o p) (qs.map (ptP p)) :=
 ⟨h.1.put hp, fun x hx => by
  obtain ⟨y, hy, rfl⟩ := List.mem_map.1 hx
  exact (h.2.1 y hy).put hp, by rw [List.length_map]; exact h.2.2⟩
theorem lsR_snd {n : Nat} {r : List (Int × Int)} (h : SndR n r) : lsR r = r := lstR_nrm h.2.2.2
theorem ins_snd {n : Nat} (o : List (Int × Int)) (Ao : Option Addr) (co : Nat) (l : List PV) (Ap : Option Addr) (cp : Nat) (p : Int × Int) (hs : SndP n o (l.map PV.par)) (hn : n ≤ 900) (hp : Gd p) (w : World) (h : PlanAt w o Ao co l Ap cp) :
  Calls Tryz.prog 36 #[.agg #[.slice Ao o.length co, .slice Ap l.length cp], .agg #[.int .i64 p.1, .int .i64 p.2]] w fun e w' => OwnP w w' (putC o p) ((l.map PV.par).map (ptP p)) e := by
 have h64 : l.length ≤ 64 := by have := hs.2.2; rwa [List.length_map] at this
 have hx := Insert_own o Ao co l Ap cp p (by omega) ⟨hs.1.1, hs.1.2.1, by have := hs.1.2.2.1; omega⟩ (fun x hx => by
  have h1 := hs.2.1 x.par (List.mem_map_of_mem hx)
  exact ⟨h1.1, h1.2.1, by have := h1.2.2.1; omega⟩) hp w h
 have e1 : lsR (putC o p) = putC o p := lsR_snd (hs.1.put hp)
 have e2 : (l.map fun x => lsP (ptP p x.par)) = (l.map PV.par).map (ptP p) := by
  rw [List.map_map]
  refine List.map_congr_left fun x hx => ?_
  have h1 := lsR_snd ((hs.2.1 x.par (List.mem_map_of_mem hx)).put hp)
  show lsP (ptP p x.par) = ptP p x.par
  unfold lsP ptP at *
  rw [h1]
 rw [e1, e2] at hx
 exact hx
section
variable {w W : World} {A1 Ap : Option Addr} {o : List (Int × Int)} {c1 n cp g : Nat} {l : List PV} {K : List (Nat × Array Value × TypeId)} {x0 y0 : Value}
theorem Og.mkSet (hq : Hold w ((g, #[x0, y0], 26) :: K) W) (hr : Row w (.slice A1 o.length c1) o W) (hv : RowI w 45 3 encV (.slice Ap n cp) l W) (hrs : OwnRs w l W) : Og w A1 o c1 Ap n l cp g K ((W.setCell ⟨g, 0, none⟩ (.slice A1 o.length c1)).setCell ⟨g, 1, none⟩ (.slice Ap n cp)) := by
 have p1 : (26 : Nat) ≠ 45 := by decide
 have p2 : (26 : Nat) ≠ 28 := by decide
 have h1 := (hq.2.1 _ (.head _)).1
 have h2 := ((hq.set 0 (.slice A1 o.length c1)).2.1 _ (.head _)).1
 have hE := hq.set2 (.slice A1 o.length c1) (.slice Ap n cp)
 exact ⟨hE, ⟨hE.1, row_far_set (row_far_set hr.2 (row_block hr.2 h1 p2) _ _) (row_block hr.2 h1 p2) _ _⟩, ⟨hE.1, row_far_set (row_far_set hv.2 (row_block hv.2 h1 p1) _ _) (row_block hv.2 h1 p1) _ _⟩, (hrs.set h1 p2 0 _).set h2 p2 1 _⟩
theorem Og.mkNew (hq : Hold w K W) (hr : Row w (.slice A1 o.length c1) o W) (hv : RowI w 45 3 encV (.slice Ap n cp) l W) (hrs : OwnRs w l W) : Og w A1 o c1 Ap n l cp W.heap.size K (W.alloc (Obj.cells #[.slice A1 o.length c1, .slice Ap n cp] 26 (0, 0))) := by
 have hb := (Below.refl _ W).alloc (Nat.le_refl _) (Obj.cells #[.slice A1 o.length c1, .slice Ap n cp] 26 (0, 0))
 exact ⟨hq.new _ _, hr.on hb, hv.on hb, hrs.on hb⟩
theorem Og.more (h : Og w A1 o c1 Ap l.length l cp g K W) {y : PV} {v' : Value} {W' : World} (hy : W.ownsRow w.heap.size 28 2 (.slice y.A y.par.ring.length y.cap) y.par.ring.length (flatP y.par.ring)) (hK : ∀ e ∈ K, e.2.2 ≠ 45)
  (hv : RowI w 45 3 encV v' (l ++ [y]) W') (hg : W.grownBy W' (Value.slice Ap l.length cp).ownBlock) :
  Hold w ((g, #[.slice A1 o.length c1, .slice Ap l.length cp], 26) :: K) W' ∧ Row w (.slice A1 o.length c1) o W' ∧ OwnRs w (l ++ [y]) W' := by
 have p1 : (28 : Nat) ≠ 45 := by decide
 refine ⟨Hold.grow h.hold hv.1 hg fun e he => ?_, ⟨hv.1, h.out.2.kept hg (rows_apart h.out.2 h.row.2 p1)⟩, fun x hx => ?_⟩
 ·refine h.row.apart (h.hold.2.1 e he).1 ?_
  rcases List.mem_cons.1 he with rfl | he
  ·exact (show (26 : Nat) ≠ 45 by decide)
  ·exact hK e he
 ·rcases List.mem_append.1 hx with hx | hx
  ·exact (h.rs x hx).kept hg (rows_apart (h.rs x hx) h.row.2 p1)
  ·obtain rfl := List.mem_singleton.1 hx
   exact hy.kept hg (rows_apart hy h.row.2 p1)
end
section
variable {o : List (Int × Int)} {ps : List Par} {id : Int} {path : List (Int × Int)} {fresh : Int}
end
end Go.Proofs.YtfjfmieadedjoaaGreat
