/- The library's Equal at rings; the program's bordered. -/
import Derived.Test.YtjlnjjmomohpaaaGreatPgL
import Derived.Test.YtjlnjjmomohpaaaGreatNorm
import Derived.Test.YtjlnjjmomohpaaaGreatRefFine
namespace Go.Proofs.YtjlnjjmomohpaaaGreat
open Go.RowKit

set_option maxRecDepth 100000 in
set_option maxHeartbeats 1000000 in
theorem equalP_any (ps qs : List (Int × Int)) (A B : Option Addr) (ca cb : Nat) (hn : ps.length ≤ 1000000) (w : World) (hr : Pts w w.heap.size A ps) (hr' : Pts w w.heap.size B qs) :
  Calls Tryz.prog 95 #[.slice A ps.length ca, .slice B qs.length cb] w fun e w' => e = .returned (.bool (decide (ps = qs))) ∧ Below w.heap.size w w' := by
 have HB0 := Hold.refl w
 by_cases hl : ps.length = qs.length
 ·have hl1 : ((ps.length : Int) == (qs.length : Int)) = true := by rw [beq_iff_eq]; omega
  have hl2 : ((ps.length : Int) != (qs.length : Int)) = false := by simp; omega
  have HL := Lib.hid hl
  clear hl
  go_enter Tryz.func95, Tryz.ntmps95
  go_wp2_with fail
  clear hl1 hl2
  go_loopg [13] ps.length (fun g i wr => ∃ k : Nat, k ≤ ps.length ∧ g = ps.length - k ∧ i = .int .i64 k ∧ ps.take k = qs.take k ∧ Hold w [] wr)
  case atStart => exact ⟨0, Nat.zero_le _, rfl, rfl, rfl, HB0⟩
  case round =>
   clear HB0
   obtain ⟨k, hk, hgk, rfl, htk, HB⟩ := hrel
   have HGK := Lib.hid hgk
   have HTK := Lib.hid htk
   clear hgk htk
   have b0 : (0 : Int) ≤ (k : Int) := by omega
   by_cases h1 : k < ps.length
   ·have h2 : k < qs.length := by have := HL.out; omega
    obtain ⟨ad, rfl, -, d0, d1⟩ := hr.at HB.1 h1
    obtain ⟨ae, rfl, -, d2, d3⟩ := hr'.at HB.1 h2
    have b1 : (k : Int) < (ps.length : Int) := by omega
    have b2 : (k : Int) < (qs.length : Int) := by omega
    have b3 : (ps.length : Int) ≤ 1000000 := by omega
    have HS := Lib.hid (take_same h1 h2 HTK.out)
    have HNE : Hid (ps[k] ≠ qs[k] → decide (ps = qs) = false) := fun h => decide_eq_false fun e => h (by simp only [e])
    clear hr hr'
    generalize ps[k] = a at *
    generalize qs[k] = b at *
    have hcs : (a.1 = b.1 ∧ a.2 = b.2) ∨ (a.1 = b.1 ∧ ¬ a.2 = b.2) ∨ ¬ a.1 = b.1 := by omega
    rcases hcs with ⟨h3, h4⟩ | ⟨h3, h4⟩ | h3
    ·have HT := Lib.hid (HS.out.2 (Prod.ext h3 h4))
     have e1 : (a.1 == b.1) = true := by simpa using h3
     have e2 : (a.2 == b.2) = true := by simpa using h4
     clear h3 h4 HS HNE HTK
     go_upto_region 6 with (fail)
     go_quiet (fail)
     have HK := Lib.hid (HB.drewN nq)
     clear HB
     go_wp2
     go_roundg (ps.length - (k + 1))
     case measure => have := HGK.out; omega
     case rel => exact ⟨k + 1, by omega, rfl, by go_num, HT.out, HK.out⟩
    ·have HT := Lib.hid (HNE.out (fun e => h4 (congrArg Prod.snd e)))
     have e1 : (a.1 == b.1) = true := by simpa using h3
     have e2 : (a.2 == b.2) = false := by simpa using h4
     clear h3 h4 HS HNE HTK
     go_upto_region 6 with (fail)
     go_quiet (fail)
     have HK := Lib.hid (HB.drewN nq).1
     clear HB
     go_wp2
     go_ret
     exact ⟨by rw [HT.out]; rfl, HK.out⟩
    ·have HT := Lib.hid (HNE.out (fun e => h3 (congrArg Prod.fst e)))
     have e1 : (a.1 == b.1) = false := by simpa using h3
     clear h3 HS HNE HTK
     go_upto_region 6 with (fail)
     go_quiet (fail)
     have HK := Lib.hid (HB.drewN nq).1
     clear HB
     go_wp2
     go_ret
     exact ⟨by rw [HT.out]; rfl, HK.out⟩
   ·obtain rfl : k = ps.length := by omega
    have HT : Hid (decide (ps = qs) = true) := decide_eq_true (by
     have h := HTK.out
     have hl := HL.out
     rw [List.take_length, hl, List.take_length] at h
     exact h)
    have HK := Lib.hid HB.1
    clear HB HTK
    go_wp2
    go_ret
    exact ⟨by rw [HT.out]; rfl, HK.out⟩
 ·have hl1 : ((ps.length : Int) == (qs.length : Int)) = false := by rw [beq_eq_false_iff_ne]; omega
  have hl2 : ((ps.length : Int) != (qs.length : Int)) = true := by rw [bne_iff_ne]; omega
  have HT : Hid (decide (ps = qs) = false) := decide_eq_false fun e => hl (by rw [e])
  clear hl
  go_enter Tryz.func95, Tryz.ntmps95
  go_wp2
  go_ret
  exact ⟨by rw [HT.out]; rfl, Below.refl _ _⟩

def cornL (rs : List RV) : Nat → Nat
 |0 => 0
 |k + 1 => cornL rs k + (match rs[k]? with | some x => x.ring.length | none => 0)
theorem cornL_succ {rs : List RV} {k : Nat} {x : RV} (h : rs[k]? = some x) : cornL rs (k + 1) = cornL rs k + x.ring.length := by rw [cornL, h]
def BordP (rs : List RV) : Prop := (∀ (k : Nat) (x : RV), rs[k]? = some x → NormP x.ring) ∧ cornL rs rs.length ≤ 1024
noncomputable def bordB (rs : List RV) : Bool := @decide (BordP rs) (Classical.propDecidable _)
theorem bordB_iff {rs : List RV} : bordB rs = true ↔ BordP rs := by unfold bordB; exact @decide_eq_true_iff _ (Classical.propDecidable _)
theorem bordB_not {rs : List RV} : bordB rs = false ↔ ¬ BordP rs := by rw [← bordB_iff, Bool.not_eq_true]
theorem nmL_eq {r : List (Int × Int)} (h : chE r = 0) : nmL r = rotL r (leastI r r.length) := by unfold nmL; rw [if_pos h]
set_option maxRecDepth 100000 in
set_option maxHeartbeats 1000000 in
theorem bordered_any (rs : List RV) (Ap : Option Addr) (cp : Nat) (hl : rs.length ≤ 1000000) (hlen : ∀ x ∈ rs, x.ring.length ≤ 8796093022208) (hcap : ∀ x ∈ rs, x.ring.length ≤ x.cap) (w : World) (hr : Rgs w Ap rs) :
  Calls Tryz.prog 58 #[.slice Ap rs.length cp] w fun e w' => e = .returned (.bool (bordB rs)) ∧ Below w.heap.size w w' := by
 have HR := Lib.hid (fun W (h : Below w.heap.size w W) => hr.on h)
 have HLL := Lib.hid hlen
 have HCP := Lib.hid hcap
 clear hr hlen hcap
 go_enter Tryz.func58, Tryz.ntmps58
 go_wp2_with fail
 go_loopg [3, 10] rs.length (fun g c i wr => ∃ k : Nat, k ≤ rs.length ∧ g = rs.length - k ∧ i = .int .i64 k ∧ c = .int .i64 (cornL rs k) ∧ cornL rs k ≤ k * 128 ∧ (∀ j x, j < k → rs[j]? = some x → NormP x.ring) ∧ Below w.heap.size w wr)
 case atStart => exact ⟨0, Nat.zero_le _, rfl, rfl, rfl, Nat.le_refl _, fun j x hj => absurd hj (by omega), Below.refl _ _⟩
 case round =>
  obtain ⟨k, hk, hgk, rfl, rfl, hcl, hno, HB⟩ := hrel
  have HGK := Lib.hid hgk
  have HNO := Lib.hid hno
  clear hgk hno
  by_cases hlt : k < rs.length
  ·have hw := HR.out _ HB
   obtain ⟨ad, rfl, hadb, hc0, -⟩ := hw.1.at kindRV.len hlt
   have d0 := hc0 _ (by decide) rfl
   rw [Nat.mul_one] at d0
   have hx : rs[k]? = some rs[k] := List.getElem?_eq_getElem hlt
   have HS := Lib.hid (cornL_succ hx)
   have hll := HLL.out _ (List.getElem_mem hlt)
   have HNM := Lib.hid (fun W (h : Below wr.heap.size wr W) => Norm_any rs[k].ring rs[k].A rs[k].cap (by unfold maxLen; omega) (HCP.out _ (List.getElem_mem hlt)) W ((hw.2 _ (List.getElem_mem hlt)).on h))
   have HEQ := Lib.hid (fun qs A' c' W (h : Below wr.heap.size wr W) (hq : Pts W W.heap.size A' qs) (hqn : qs.length ≤ 1000000) => equalP_any qs rs[k].ring A' rs[k].A c' rs[k].cap hqn W hq ((hw.2 _ (List.getElem_mem hlt)).on h))
   have HBAD : Hid (¬ NormP rs[k].ring → bordB rs = false) := fun h => bordB_not.2 fun hb => h (hb.1 k _ hx)
   have HNX : Hid (NormP rs[k].ring → ∀ j x, j < k + 1 → rs[j]? = some x → NormP x.ring) := fun h j x hj hxj => by
    by_cases e : j = k
    ·subst e; obtain rfl := Option.some.inj (hx.symm.trans hxj); exact h
    ·exact HNO.out j x (by omega) hxj
   have HRF := Lib.hid (Below.refl wr.heap.size wr)
   have HBX := Lib.hid HB
   have b0 : (0 : Int) ≤ (k : Int) := by omega
   have b1 : (k : Int) < (rs.length : Int) := by omega
   have w1 := wrap_in (n := (cornL rs k : Int) + (rs[k].ring.length : Int)) (by omega) (by omega)
   have HCL := Lib.hid hcl
   clear hw hc0 hx hll HB hadb hcl
   obtain ⟨cl, hcl⟩ : ∃ n, cornL rs k = n := ⟨_, rfl⟩
   rw [hcl] at w1 HS HCL ⊢
   clear hcl
   generalize rs[k].ring = ps at *
   generalize rs[k].A = Ak at *
   generalize rs[k].cap = ck at *
   by_cases hch : chE ps = 0
   ·have e0 : (chE ps == 0) = true := by simpa using hch
    have e0' : (chE ps != 0) = false := by simpa using hch
    have hps : ps.length ≤ 128 := (arE_zero.1 (chE_zero.1 hch).1).1
    have HPS := Lib.hid hps
    by_cases hnm : nmL ps = ps
    ·have HNP : Hid (NormP ps) := ⟨hch, by rw [← nmL_eq hch]; exact hnm.symm⟩
     have HN := Lib.hid (HNX.out HNP.out)
     have e1 : decide (nmL ps = ps) = true := decide_eq_true hnm
     have HND := Lib.hid (show (nmL ps).length ≤ 1000000 by rw [hnm]; omega)
     clear hch hnm hps HBAD HNX
     generalize nmL ps = qs at *
     go_wp2_with (first
      |(go_at_call 94; go_must (refine (HNM.out _ HRF.out).mono ?_; rintro e' W3 ⟨v, rfl, hv⟩; obtain ⟨A3, c3, rfl, hp3, -, -⟩ := hv.full; have HP3 := Lib.hid hp3; have HB3 := Lib.hid hv.1; clear hp3 hv))
      |(go_at_call 95; go_must (refine (HEQ.out _ _ _ _ HB3.out HP3.out HND.out).mono ?_; rintro e' W4 ⟨rfl, hB⟩; have HB4 := Lib.hid (Below.trans HBX.out ((Below.trans HB3.out (hB.mono HB3.out.size)).mono HBX.out.size)); clear hB)))
     go_roundg (rs.length - (k + 1))
     case measure => have := HGK.out; omega
     case rel => exact ⟨k + 1, by omega, rfl, by go_num, by rw [HS.out]; simp, by have := HS.out; have := HCL.out; have := HPS.out; omega, HN.out, HB4.out⟩
    ·have HF : Hid (bordB rs = false) := HBAD.out fun h => hnm (by rw [nmL_eq hch]; exact h.2.symm)
     have e1 : decide (nmL ps = ps) = false := decide_eq_false hnm
     have HND := Lib.hid (show (nmL ps).length ≤ 1000000 by rw [nmL_eq hch, rotL_length]; omega)
     clear hch hnm hps HBAD HNX
     generalize nmL ps = qs at *
     go_wp2_with (first
      |(go_at_call 94; go_must (refine (HNM.out _ HRF.out).mono ?_; rintro e' W3 ⟨v, rfl, hv⟩; obtain ⟨A3, c3, rfl, hp3, -, -⟩ := hv.full; have HP3 := Lib.hid hp3; have HB3 := Lib.hid hv.1; clear hp3 hv))
      |(go_at_call 95; go_must (refine (HEQ.out _ _ _ _ HB3.out HP3.out HND.out).mono ?_; rintro e' W4 ⟨rfl, hB⟩; have HB4 := Lib.hid (Below.trans HBX.out ((Below.trans HB3.out (hB.mono HB3.out.size)).mono HBX.out.size)); clear hB)))
     go_ret
     exact ⟨by rw [HF.out]; rfl, HB4.out⟩
   ·have e0 : (chE ps == 0) = false := by simpa using hch
    have e0' : (chE ps != 0) = true := by simpa using hch
    have HF : Hid (bordB rs = false) := HBAD.out fun h => hch h.1
    clear hch HBAD HNX
    go_wp2_with (go_at_call 94; go_must (refine (HNM.out _ HRF.out).mono ?_; rintro e' W3 ⟨v, rfl, hv⟩; have HB3 := Lib.hid (Below.trans HBX.out (hv.1.mono HBX.out.size)); clear hv))
    go_ret
    exact ⟨by rw [HF.out]; rfl, HB3.out⟩
  ·obtain rfl : k = rs.length := by omega
   have HG : Hid (bordB rs = decide (cornL rs rs.length ≤ 1024)) := by
    unfold Hid
    have hn : ∀ (k : Nat) (x : RV), rs[k]? = some x → NormP x.ring := fun j x hx => by
     have hj : j < rs.length := by
      by_cases hj : j < rs.length
      ·exact hj
      ·rw [List.getElem?_eq_none (by omega)] at hx; cases hx
     exact HNO.out j x hj hx
    by_cases h : cornL rs rs.length ≤ 1024
    ·rw [decide_eq_true h]; exact bordB_iff.2 ⟨hn, h⟩
    ·rw [decide_eq_false h]; exact bordB_not.2 fun hb => h hb.2
   have HB9 := Lib.hid HB
   clear HB HNO hcl
   obtain ⟨cl, hcl⟩ : ∃ n, cornL rs rs.length = n := ⟨_, rfl⟩
   rw [hcl] at HG ⊢
   clear hcl
   by_cases h : cl ≤ 1024
   ·have h' : (cl : Int) ≤ 1024 := by omega
    rw [decide_eq_true h] at HG
    clear h
    go_wp2
    go_ret
    exact ⟨by rw [HG.out]; simp, HB9.out⟩
   ·have h' : ¬ (cl : Int) ≤ 1024 := by omega
    rw [decide_eq_false h] at HG
    clear h
    go_wp2
    go_ret
    exact ⟨by rw [HG.out]; simp, HB9.out⟩
end Go.Proofs.YtjlnjjmomohpaaaGreat

namespace Go.Proofs.YtjlnjjmomohpaaaGreat
open Go.RowKit

theorem joinB_symm (a b : EdT) : joinB a b = joinB b a := by
 rw [Bool.eq_iff_iff, joinB_iff, joinB_iff]
 constructor
 ·rintro (h | h | h | h)
  ·exact .inl h.symm
  ·exact .inr (.inr (.inl h.symm))
  ·exact .inr (.inl h.symm)
  ·exact .inr (.inr (.inr h.symm))
 ·rintro (h | h | h | h)
  ·exact .inl h.symm
  ·exact .inr (.inr (.inl h.symm))
  ·exact .inr (.inl h.symm)
  ·exact .inr (.inr (.inr h.symm))
theorem mvE_symm (a b : EdT) : mvE a b = mvE b a := by
 unfold mvE mv
 rw [meetN_eq, meetN_eq, meet_swap, gdL_same (ps := [a.1, a.2, b.1, b.2]) (qs := [b.1, b.2, a.1, a.2]) (fun p => by simp only [List.mem_cons, List.not_mem_nil, or_false]; constructor <;> (rintro (h | h | h | h) <;> simp [h]))]
theorem looseB_symm (a b : EdT) : looseB a b = looseB b a := by unfold looseB; rw [mvE_symm, joinB_symm]
theorem apart_iff {ys : List EdT} : ApartP ys ↔ ys.Pairwise fun a b => looseB a b = true := by
 rw [List.pairwise_iff_getElem]
 constructor
 ·intro h i j hi hj hij
  rw [looseB_symm]; exact h j i hj hij
 ·intro h i j hi hj
  rw [looseB_symm]; exact h j i (by omega) hi hj
theorem apart_perm {ys zs : List EdT} (h : ys.Perm zs) : ApartP ys ↔ ApartP zs := by
 rw [apart_iff, apart_iff]
 exact h.pairwise_iff fun {a b} hab => by rw [looseB_symm]; exact hab
theorem edgs_cons (o : List (Int × Int)) (L : List (List (Int × Int))) : edgs (o :: L) = edg o ++ edgs L := rfl
def FitsP (o : List (Int × Int)) (l : List PV) : Prop := (edgs (rings l)).Nodup ∧ MatchP (edgs (rings l)) o ∧ fillB o l = true ∧ ApartP (stAll (edg o ++ edgs (rings l)))
noncomputable def fitsB (o : List (Int × Int)) (l : List PV) : Bool := @decide (FitsP o l) (Classical.propDecidable _)
theorem fitsB_iff {o : List (Int × Int)} {l : List PV} : fitsB o l = true ↔ FitsP o l := by unfold fitsB; exact @decide_eq_true_iff _ (Classical.propDecidable _)
theorem fitsB_not {o : List (Int × Int)} {l : List PV} : fitsB o l = false ↔ ¬ FitsP o l := by rw [← fitsB_iff, Bool.not_eq_true]
theorem normP_small {r : List (Int × Int)} (h : NormP r) : arE r = 0 ∧ r.length ≤ 128 ∧ ∀ p ∈ r, Gd p := by
 have h1 := (chE_zero.1 h.1).1
 obtain ⟨h2, h3⟩ := arE_zero.1 h1
 exact ⟨h1, h2, gdL_iff.1 h3⟩
set_option maxRecDepth 100000 in
set_option maxHeartbeats 1000000 in
theorem fits_any (o : List (Int × Int)) (Ao : Option Addr) (co : Nat) (l : List PV) (Ap : Option Addr) (cp : Nat) (hl : l.length ≤ 64) (hno : NormP o) (hnl : ∀ x ∈ l, NormP x.par.ring) (hn : (edgs (rings l)).length ≤ 10000) (w : World) (hr : Prs w Ap l) (hro : Pts w w.heap.size Ao o) :
  Calls Tryz.prog 60 #[.agg #[.slice Ao o.length co, .slice Ap l.length cp]] w fun e' w' => e' = .returned (.bool (fitsB o l)) ∧ Below w.heap.size w w' := by
 obtain ⟨ho1, ho2, ho3⟩ := normP_small hno
 have hs1 := fun x hx => normP_small (hnl x hx)
 have HS := Lib.hid (fun W (h : Below w.heap.size w W) => sides_any l Ap cp (by omega) (by omega) (fun x hx => (hs1 x hx).2.2) W (hr.on h))
 have HM := Lib.hid (fun b W (h : Below w.heap.size w W) hm => matched_any b (ownL l) o Ao co (by omega) W hm (hro.on h))
 have HF := Lib.hid (fun W (h : Below w.heap.size w W) => filled_any o Ao co l Ap cp (by omega) (by unfold maxLen; omega) (fun x hx => ⟨(hs1 x hx).1, by have := (hs1 x hx).2.1; unfold maxLen; omega⟩) W (hr.on h) (hro.on h))
 have HG := Lib.hid (fun W (h : Below w.heap.size w W) => rings_any o Ao co l Ap cp (by omega) W (hr.on h))
 have hal : (allRV o Ao co l).length ≤ 1000000 := by unfold allRV; rw [List.length_cons, List.length_map]; omega
 have hrl : ∀ x ∈ allRV o Ao co l, x.ring.length ≤ 1000000 ∧ ∀ p ∈ x.ring, Gd p := fun x hx => by
  unfold allRV at hx
  rcases List.mem_cons.1 hx with rfl | hx
  ·exact ⟨by show o.length ≤ 1000000; omega, ho3⟩
  ·obtain ⟨y, hy, rfl⟩ := List.mem_map.1 hx
   exact ⟨by have := (hs1 y hy).2.1; show y.par.ring.length ≤ 1000000; omega, (hs1 y hy).2.2⟩
 have hpt : ∀ W, Below w.heap.size w W → ∀ x ∈ allRV o Ao co l, Pts W W.heap.size x.A x.ring := fun W h x hx => by
  unfold allRV at hx
  rcases List.mem_cons.1 hx with rfl | hx
  ·exact hro.on h
  ·obtain ⟨y, hy, rfl⟩ := List.mem_map.1 hx
   exact ((hr.2 y hy).1).on h
 have hel : (edgs (rgs (allRV o Ao co l))).length ≤ 1000000 := by rw [rgs_all, edgs_cons, List.length_append, edg_len]; omega
 have HA := Lib.hid (fun A c W (h : Below w.heap.size w W) (hi : Items W W.heap.size A encRV (allRV o Ao co l)) => apart_any (allRV o Ao co l) A c hel hal (fun x hx => (hrl x hx).1) (fun x hx => (hrl x hx).2) W ⟨hi, hpt W h⟩)
 rw [rgs_all, edgs_cons] at HA
 rw [ownL_keys] at HM
 have HFB := Lib.hid (show fitsB o l = true ↔ FitsP o l from fitsB_iff)
 have HFN := Lib.hid (show ¬ FitsP o l → fitsB o l = false from fitsB_not.2)
 have HQ := (Hold.refl w).new #[.slice Ao o.length co, .slice Ap l.length cp] 26
 clear hr hro hno hnl hs1 hrl hpt ho3 hn hal hel
 generalize allRV o Ao co l = rs at *
 go_enter Tryz.func60, Tryz.ntmps60
 go_upto_region 1 with (fail)
 generalize (World.alloc _ _) = W1 at HQ ⊢
 obtain ⟨g0, hg0⟩ : ∃ g, w.heap.size = g := ⟨_, rfl⟩
 have HQ0 := Lib.hid HQ
 rw [hg0] at HQ ⊢
 have HG0 := Lib.hid hg0
 obtain ⟨c0, c1⟩ := HQ.pt (.head _)
 have HQX := Lib.hid HQ
 clear HQ hg0
 go_wp2_with fail
 go_at_call 96
 refine (HS.out _ HQ0.out.1).mono ?_
 rintro e W2 ⟨hB2, ⟨rfl, hnd⟩ | ⟨b, rfl, -, hnd, hmp⟩⟩
 ·have HF0 := Lib.hid (HFN.out fun h => hnd h.1)
  have HB2 := Lib.hid (HQX.out.on hB2).1
  clear hB2 hnd c0 c1
  go_wp2
  go_ret
  exact ⟨by rw [HF0.out]; rfl, HB2.out⟩
 ·have hq2 := HQX.out.on hB2
  have HB2 := Lib.hid hq2.1
  have HQ2 := Lib.hid hq2
  have HMP := Lib.hid hmp
  have HND := Lib.hid hnd
  clear c0 c1 hB2 hmp hnd
  obtain ⟨c0, c1⟩ := hq2.pt (.head _)
  clear hq2
  cases hmb : matchB (edgs (rings l)) o
  ·have HF0 := Lib.hid (HFN.out fun h => matchB_not.1 hmb h.2.1)
   rw [hmb] at HM
   clear hmb
   go_wp2_with (go_at_call 97; go_must (refine (HM.out _ _ HB2.out HMP.out).mono ?_; rintro e' W3 ⟨rfl, hB⟩; have HB3 := Lib.hid (HQ2.out.on hB).1; clear hB))
   go_ret
   exact ⟨by rw [HF0.out]; rfl, HB3.out⟩
  ·have HMM := Lib.hid (matchB_iff.1 hmb)
   rw [hmb] at HM
   clear hmb
   cases hfb : fillB o l
   ·have HF0 := Lib.hid (HFN.out fun h => by have h3 := h.2.2.1; rw [hfb] at h3; cases h3)
    rw [hfb] at HF
    clear hfb
    go_wp2_with (first
     |(go_at_call 97; go_must (refine (HM.out _ _ HB2.out HMP.out).mono ?_; rintro e' W3 ⟨rfl, hB⟩; have hq3 := HQ2.out.on hB; obtain ⟨d0, d1⟩ := hq3.pt (.head _); have HB3 := Lib.hid hq3.1; have HQ3 := Lib.hid hq3; clear hB hq3))
     |(go_at_call 98; go_must (refine (HF.out _ HB3.out).mono ?_; rintro e' W4 ⟨rfl, hB⟩; have HB4 := Lib.hid (HQ3.out.on hB).1; clear hB)))
    go_ret
    exact ⟨by rw [HF0.out]; rfl, HB4.out⟩
   ·have HFF := Lib.hid hfb
    rw [hfb] at HF
    clear hfb
    go_wp2_with (first
     |(go_at_call 97; go_must (refine (HM.out _ _ HB2.out HMP.out).mono ?_; rintro e' W3 ⟨rfl, hB⟩; have hq3 := HQ2.out.on hB; obtain ⟨d0, d1⟩ := hq3.pt (.head _); have HB3 := Lib.hid hq3.1; have HQ3 := Lib.hid hq3; clear hB hq3))
     |(go_at_call 98; go_must (refine (HF.out _ HB3.out).mono ?_; rintro e' W4 ⟨rfl, hB⟩; have hq4 := HQ3.out.on hB; obtain ⟨f0, f1⟩ := hq4.pt (.head _); have HB4 := Lib.hid hq4.1; have HQ4 := Lib.hid hq4; clear hB hq4))
     |(go_at_call 59; go_must (refine (HG.out _ HB4.out).mono ?_; rintro e' W5 ⟨v, rfl, hv⟩; obtain ⟨A5, c5, hv5, hi5, -⟩ := hv.items; have HB5 := Lib.hid (HQ4.out.on hv.1).1; have HI5 := Lib.hid hi5; subst hv5; clear hv hi5))
     |(go_at_call 99; go_must (refine (HA.out _ _ _ HB5.out HI5.out).mono ?_; rintro e' W6 ⟨bb, ys, rfl, hp, hiff, hB⟩; have HB6 := Lib.hid (Below.trans HB5.out (hB.mono HB5.out.size)); have HBB := Lib.hid (hiff.trans (apart_perm hp)); clear hp hiff hB)))
    go_ret
    refine ⟨?_, HB6.out⟩
    have : fitsB o l = bb := by
     rw [Bool.eq_iff_iff, HFB.out, HBB.out]
     exact ⟨fun h => h.2.2.2, fun h => ⟨HND.out, HMM.out, HFF.out, h⟩⟩
    rw [this]; rfl

def CheckQ (o : List (Int × Int)) (Ao : Option Addr) (co : Nat) (l : List PV) : Prop := NumP l ∧ BordP (allRV o Ao co l) ∧ FitsP o l
noncomputable def checkB (o : List (Int × Int)) (Ao : Option Addr) (co : Nat) (l : List PV) : Bool := @decide (CheckQ o Ao co l) (Classical.propDecidable _)
theorem checkB_iff {o : List (Int × Int)} {Ao : Option Addr} {co : Nat} {l : List PV} : checkB o Ao co l = true ↔ CheckQ o Ao co l := by unfold checkB; exact @decide_eq_true_iff _ (Classical.propDecidable _)
theorem checkB_not {o : List (Int × Int)} {Ao : Option Addr} {co : Nat} {l : List PV} : checkB o Ao co l = false ↔ ¬ CheckQ o Ao co l := by rw [← checkB_iff, Bool.not_eq_true]
noncomputable def ckE (o : List (Int × Int)) (Ao : Option Addr) (co : Nat) (l : List PV) : Int := if checkB o Ao co l then 0 else 2
theorem ckE_true {o : List (Int × Int)} {Ao : Option Addr} {co : Nat} {l : List PV} (h : checkB o Ao co l = true) : ckE o Ao co l = 0 := by unfold ckE; rw [if_pos h]
theorem ckE_false {o : List (Int × Int)} {Ao : Option Addr} {co : Nat} {l : List PV} (h : checkB o Ao co l = false) : ckE o Ao co l = 2 := by unfold ckE; rw [h]; rfl
theorem cornL_le {rs : List RV} : ∀ (n : Nat), n ≤ rs.length → (edgs (rgs (rs.take n))).length = cornL rs n
 |0, _ => by simp [rgs, edgs, cornL]
 |n + 1, h => by
  have hlt : n < rs.length := by omega
  rw [edgs_rgs_take hlt, List.length_append, cornL_le n (by omega), edg_len, cornL_succ (List.getElem?_eq_getElem hlt)]
theorem bord_spec {o : List (Int × Int)} {Ao : Option Addr} {co : Nat} {l : List PV} (h : BordP (allRV o Ao co l)) : NormP o ∧ (∀ x ∈ l, NormP x.par.ring) ∧ o.length + (edgs (rings l)).length ≤ 1024 := by
 refine ⟨h.1 0 ⟨o, Ao, co⟩ rfl, fun x hx => ?_, ?_⟩
 ·obtain ⟨i, hi, rfl⟩ := List.getElem_of_mem hx
  exact h.1 (i + 1) (toRV l[i]) (by unfold allRV; rw [List.getElem?_cons_succ, List.getElem?_map, List.getElem?_eq_getElem hi]; rfl)
 ·have h1 := cornL_le (rs := allRV o Ao co l) _ (Nat.le_refl _)
  rw [List.take_length, rgs_all, edgs_cons, List.length_append, edg_len] at h1
  have := h.2
  omega
set_option maxRecDepth 100000 in
set_option maxHeartbeats 1000000 in
theorem PCheck_any (o : List (Int × Int)) (Ao : Option Addr) (co : Nat) (l : List PV) (Ap : Option Addr) (cp : Nat) (hl : l.length ≤ 1000000) (hlo : o.length ≤ 8796093022208) (hco : o.length ≤ co) (hcl : ∀ x ∈ l, x.par.ring.length ≤ x.cap) (hown : ∀ x ∈ l, x.par.own.size ≤ maxLen) (w : World) (hr : Prs w Ap l) (hro : Pts w w.heap.size Ao o) :
  Calls Tryz.prog 24 #[.agg #[.slice Ao o.length co, .slice Ap l.length cp]] w fun e' w' => e' = .returned (.int .i64 (ckE o Ao co l)) ∧ Below w.heap.size w w' := by
 have HNU := Lib.hid (fun W (h : Below w.heap.size w W) => numbered_any l Ap cp hl hown W (hr.on h))
 have HG := Lib.hid (fun W (h : Below w.heap.size w W) => rings_any o Ao co l Ap cp hl W (hr.on h))
 have HPR := Lib.hid (fun W (h : Below w.heap.size w W) => hr.on h)
 have HPO := Lib.hid (fun W (h : Below w.heap.size w W) => hro.on h)
 have hal : (allRV o Ao co l).length ≤ 1000000 ∨ ¬ NumP l := by
  by_cases h : l.length ≤ 64
  ·exact .inl (by unfold allRV; rw [List.length_cons, List.length_map]; omega)
  ·exact .inr fun hh => h hh.2.1
 have HBO := Lib.hid (fun A c W (h : Below w.heap.size w W) (h1 : (allRV o Ao co l).length ≤ 1000000) (hi : Items W W.heap.size A encRV (allRV o Ao co l)) => bordered_any (allRV o Ao co l) A c h1 (fun x hx => by
   unfold allRV at hx
   rcases List.mem_cons.1 hx with rfl | hx
   ·exact hlo
   ·obtain ⟨y, hy, rfl⟩ := List.mem_map.1 hx
    have := (hr.2 y hy).2.2
    show y.par.ring.length ≤ 8796093022208
    omega) (fun x hx => by
   unfold allRV at hx
   rcases List.mem_cons.1 hx with rfl | hx
   ·exact hco
   ·obtain ⟨y, hy, rfl⟩ := List.mem_map.1 hx
    exact hcl y hy) W ⟨hi, fun x hx => by
   unfold allRV at hx
   rcases List.mem_cons.1 hx with rfl | hx
   ·exact hro.on h
   ·obtain ⟨y, hy, rfl⟩ := List.mem_map.1 hx
    exact ((hr.2 y hy).1).on h⟩)
 have HQ := (Hold.refl w).new #[.slice Ao o.length co, .slice Ap l.length cp] 26
 have HCB := Lib.hid (show ¬ CheckQ o Ao co l → ckE o Ao co l = 2 from fun h => ckE_false (checkB_not.2 h))
 have HCT := Lib.hid (show CheckQ o Ao co l → ckE o Ao co l = 0 from fun h => ckE_true (checkB_iff.2 h))
 have HAL := Lib.hid hal
 clear hr hro hal hcl hown
 go_enter Tryz.func24, Tryz.ntmps24
 go_upto_region 1 with (fail)
 generalize (World.alloc _ _) = W1 at HQ ⊢
 generalize w.heap.size = g0 at HQ ⊢
 obtain ⟨c0, c1⟩ := HQ.pt (.head _)
 have HQX := Lib.hid HQ
 have HB1 := Lib.hid HQ.1
 clear HQ
 cases hnb : numB l
 ·have HF0 := Lib.hid (HCB.out fun h => numB_not.1 hnb h.1)
  rw [hnb] at HNU
  clear hnb
  go_wp2_with (go_at_call 57; go_must (refine (HNU.out _ HB1.out).mono ?_; rintro e' W3 ⟨rfl, hB⟩; have HB3 := Lib.hid (HQX.out.on hB).1; clear hB))
  go_ret
  exact ⟨by rw [HF0.out]; rfl, HB3.out⟩
 ·have hnp := numB_iff.1 hnb
  have HNP := Lib.hid hnp
  have HL64 := Lib.hid hnp.2.1
  have HAL1 : Hid ((allRV o Ao co l).length ≤ 1000000) := HAL.out.resolve_right fun h => h hnp
  rw [hnb] at HNU
  clear hnb hnp
  cases hbb : bordB (allRV o Ao co l)
  ·have HF0 := Lib.hid (HCB.out fun h => bordB_not.1 hbb h.2.1)
   rw [hbb] at HBO
   clear hbb
   generalize allRV o Ao co l = rs at *
   go_wp2_with (first
    |(go_at_call 57; go_must (refine (HNU.out _ HB1.out).mono ?_; rintro e' W3 ⟨rfl, hB⟩; have hq3 := HQX.out.on hB; obtain ⟨d0, d1⟩ := hq3.pt (.head _); have HB3 := Lib.hid hq3.1; have HQ3 := Lib.hid hq3; clear hB hq3))
    |(go_at_call 59; go_must (refine (HG.out _ HB3.out).mono ?_; rintro e' W5 ⟨v, rfl, hv⟩; obtain ⟨A5, c5, hv5, hi5, -⟩ := hv.items; have HB5 := Lib.hid (HQ3.out.on hv.1).1; have HI5 := Lib.hid hi5; subst hv5; clear hv hi5))
    |(go_at_call 58; go_must (refine (HBO.out _ _ _ HB5.out HAL1.out HI5.out).mono ?_; rintro e' W6 ⟨rfl, hB⟩; have HB6 := Lib.hid (Below.trans HB5.out (hB.mono HB5.out.size)); clear hB)))
   go_ret
   exact ⟨by rw [HF0.out]; rfl, HB6.out⟩
  ·have hbp := bordB_iff.1 hbb
   obtain ⟨hno, hnl, hsz⟩ := bord_spec hbp
   have HFI := Lib.hid (fun W (h : Below w.heap.size w W) => fits_any o Ao co l Ap cp HL64.out hno hnl (by omega) W (HPR.out W h) (HPO.out W h))
   have HCE : Hid (checkB o Ao co l = fitsB o l) := by
    unfold Hid
    rw [Bool.eq_iff_iff, checkB_iff, fitsB_iff]
    exact ⟨fun h => h.2.2, fun h => ⟨HNP.out, hbp, h⟩⟩
   rw [hbb] at HBO
   clear hbb hbp hno hnl hsz
   generalize allRV o Ao co l = rs at *
   cases hfi : fitsB o l
   ·have HCE2 := Lib.hid (ckE_false (HCE.out.trans hfi))
    rw [hfi] at HFI
    clear hfi
    go_wp2_with (first
     |(go_at_call 57; go_must (refine (HNU.out _ HB1.out).mono ?_; rintro e' W3 ⟨rfl, hB⟩; have hq3 := HQX.out.on hB; obtain ⟨d0, d1⟩ := hq3.pt (.head _); have HB3 := Lib.hid hq3.1; have HQ3 := Lib.hid hq3; clear hB hq3))
     |(go_at_call 59; go_must (refine (HG.out _ HB3.out).mono ?_; rintro e' W5 ⟨v, rfl, hv⟩; obtain ⟨A5, c5, hv5, hi5, -⟩ := hv.items; have hq5 := HQ3.out.on hv.1; have HB5 := Lib.hid hq5.1; have HQ5 := Lib.hid hq5; have HI5 := Lib.hid hi5; subst hv5; clear hv hi5 hq5))
     |(go_at_call 58; go_must (refine (HBO.out _ _ _ HB5.out HAL1.out HI5.out).mono ?_; rintro e' W6 ⟨rfl, hB⟩; have hq6 := HQ5.out.on hB; obtain ⟨f0, f1⟩ := hq6.pt (.head _); have HB6 := Lib.hid hq6.1; have HQ6 := Lib.hid hq6; clear hB hq6))
     |(go_at_call 60; go_must (refine (HFI.out _ HB6.out).mono ?_; rintro e' W7 ⟨rfl, hB⟩; have HB7 := Lib.hid (HQ6.out.on hB).1; clear hB)))
    go_ret
    exact ⟨by rw [HCE2.out]; rfl, HB7.out⟩
   ·have HCE2 := Lib.hid (ckE_true (HCE.out.trans hfi))
    rw [hfi] at HFI
    clear hfi
    go_wp2_with (first
     |(go_at_call 57; go_must (refine (HNU.out _ HB1.out).mono ?_; rintro e' W3 ⟨rfl, hB⟩; have hq3 := HQX.out.on hB; obtain ⟨d0, d1⟩ := hq3.pt (.head _); have HB3 := Lib.hid hq3.1; have HQ3 := Lib.hid hq3; clear hB hq3))
     |(go_at_call 59; go_must (refine (HG.out _ HB3.out).mono ?_; rintro e' W5 ⟨v, rfl, hv⟩; obtain ⟨A5, c5, hv5, hi5, -⟩ := hv.items; have hq5 := HQ3.out.on hv.1; have HB5 := Lib.hid hq5.1; have HQ5 := Lib.hid hq5; have HI5 := Lib.hid hi5; subst hv5; clear hv hi5 hq5))
     |(go_at_call 58; go_must (refine (HBO.out _ _ _ HB5.out HAL1.out HI5.out).mono ?_; rintro e' W6 ⟨rfl, hB⟩; have hq6 := HQ5.out.on hB; obtain ⟨f0, f1⟩ := hq6.pt (.head _); have HB6 := Lib.hid hq6.1; have HQ6 := Lib.hid hq6; clear hB hq6))
     |(go_at_call 60; go_must (refine (HFI.out _ HB6.out).mono ?_; rintro e' W7 ⟨rfl, hB⟩; have HB7 := Lib.hid (HQ6.out.on hB).1; clear hB)))
    go_ret
    exact ⟨by rw [HCE2.out]; rfl, HB7.out⟩
end Go.Proofs.YtjlnjjmomohpaaaGreat

namespace Go.Proofs.YtjlnjjmomohpaaaGreat

theorem sub_all {α : Type} [DecidableEq α] : ∀ {l m : List α}, l.Nodup → (∀ a ∈ l, a ∈ m) → m.length ≤ l.length → ∀ a ∈ m, a ∈ l
 |[], m, _, _, h, a, ha => by
  have : m = [] := List.length_eq_zero_iff.1 (by simpa using h)
  rw [this] at ha; cases ha
 |x :: l, m, hn, hs, h, a, ha => by
  obtain ⟨h1, h2⟩ := List.nodup_cons.1 hn
  by_cases e : a = x
  ·subst e; exact List.mem_cons_self
  ·have hx := hs x List.mem_cons_self
   have h3 : ∀ b ∈ l, b ∈ m.erase x := fun b hb => (List.mem_erase_of_ne (show b ≠ x from fun e => h1 (by rw [← e]; exact hb))).2 (hs b (List.mem_cons_of_mem _ hb))
   have h4 : (m.erase x).length ≤ l.length := by rw [List.length_erase_of_mem hx, List.length_cons] at *; omega
   exact List.mem_cons_of_mem _ (sub_all h2 h3 h4 a ((List.mem_erase_of_ne e).2 ha))
theorem mem_free {es : List EdT} {e : EdT} : e ∈ freeOf es es ↔ e ∈ es ∧ bk e ∉ es := by
 unfold freeOf
 rw [List.mem_filter, decide_eq_true_iff]
theorem bk_bk (e : EdT) : bk (bk e) = e := rfl
theorem stK_sub {ks : List EdT} {e a : EdT} (h : a ∈ stK ks e) : a ∈ ks ∨ a = e := by
 unfold stK addKey at h
 split at h
 ·exact .inl h
 ·split at h
  ·exact .inl h
  ·rcases List.mem_append.1 h with h | h
   ·exact .inl h
   ·exact .inr (List.mem_singleton.1 h)
theorem stK_old {ks : List EdT} {e a : EdT} (h : a ∈ ks) : a ∈ stK ks e := by
 unfold stK addKey
 split
 ·exact h
 ·split
  ·exact h
  ·exact List.mem_append_left _ h
theorem stK_new (ks : List EdT) (e : EdT) : e ∈ stK ks e ∨ bk e ∈ stK ks e := by
 unfold stK addKey
 split
 ·rename_i h; exact .inr h
 ·split
  ·rename_i h; exact .inl h
  ·exact .inl (by simp)
def Afar (a b : EdT) : Prop := a ≠ b ∧ bk a ≠ b
theorem stK_far {ks : List EdT} {e : EdT} (h : ks.Pairwise Afar) : (stK ks e).Pairwise Afar := by
 unfold stK addKey
 split
 ·exact h
 ·rename_i h1
  split
  ·exact h
  ·rename_i h2
   refine List.pairwise_append.2 ⟨h, List.pairwise_singleton _ _, fun a ha b hb => ?_⟩
   rw [List.mem_singleton.1 hb]
   exact ⟨fun e => h2 (e ▸ ha), fun e => h1 (by rw [← e, bk_bk]; exact ha)⟩
theorem fold_sub : ∀ {es ks : List EdT} {a : EdT}, a ∈ es.foldl stK ks → a ∈ ks ∨ a ∈ es
 |[], _, _, h => .inl h
 |e :: es, ks, a, h => by
  rcases fold_sub (es := es) h with h | h
  ·rcases stK_sub h with h | h
   ·exact .inl h
   ·exact .inr (h ▸ List.mem_cons_self)
  ·exact .inr (List.mem_cons_of_mem _ h)
theorem fold_old : ∀ {es ks : List EdT} {a : EdT}, a ∈ ks → a ∈ es.foldl stK ks
 |[], _, _, h => h
 |_ :: es, _, _, h => fold_old (es := es) (stK_old h)
theorem fold_new : ∀ {es ks : List EdT} {a : EdT}, a ∈ es → a ∈ es.foldl stK ks ∨ bk a ∈ es.foldl stK ks
 |e :: es, ks, a, h => by
  rcases List.mem_cons.1 h with rfl | h
  ·exact (stK_new ks a).imp (fold_old (es := es)) (fold_old (es := es))
  ·exact fold_new (es := es) h
theorem fold_far : ∀ {es ks : List EdT}, ks.Pairwise Afar → (es.foldl stK ks).Pairwise Afar
 |[], _, h => h
 |_ :: es, _, h => fold_far (es := es) (stK_far h)

theorem mvE_gd {a b : EdT} (ha : Gd a.1 ∧ Gd a.2) (hb : Gd b.1 ∧ Gd b.2) : mvE a b = meet a.1 a.2 b.1 b.2 := by
 unfold mvE mv
 rw [if_pos, meetN_eq]
 rw [gdL_iff]
 intro p hp
 simp only [List.mem_cons, List.not_mem_nil, or_false] at hp
 rcases hp with rfl | rfl | rfl | rfl
 ·exact ha.1
 ·exact ha.2
 ·exact hb.1
 ·exact hb.2
theorem loose_iff {a b : EdT} (ha : Gd a.1 ∧ Gd a.2) (hb : Gd b.1 ∧ Gd b.2) : looseB a b = true ↔ (meet a.1 a.2 b.1 b.2 = 0 ∨ (meet a.1 a.2 b.1 b.2 = 1 ∧ joinB a b = true)) := by
 unfold looseB
 rw [Bool.or_eq_true, Bool.and_eq_true, decide_eq_true_iff, decide_eq_true_iff, mvE_gd ha hb]
theorem gd_bk {a : EdT} (h : Gd a.1 ∧ Gd a.2) : Gd (bk a).1 ∧ Gd (bk a).2 := ⟨h.2, h.1⟩
theorem meet_bk (a b : EdT) : meet (bk a).1 (bk a).2 b.1 b.2 = meet a.1 a.2 b.1 b.2 := meet_turn
theorem meet_bk' (a b : EdT) : meet a.1 a.2 (bk b).1 (bk b).2 = meet a.1 a.2 b.1 b.2 := by rw [← meet_swap, meet_bk, meet_swap]
theorem join_bk (a b : EdT) : joinB (bk a) b = joinB a b := by
 rw [Bool.eq_iff_iff, joinB_iff, joinB_iff]
 show (a.2 = b.1 ∨ a.2 = b.2 ∨ a.1 = b.1 ∨ a.1 = b.2) ↔ _
 constructor
 ·rintro (h | h | h | h)
  ·exact .inr (.inr (.inl h))
  ·exact .inr (.inr (.inr h))
  ·exact .inl h
  ·exact .inr (.inl h)
 ·rintro (h | h | h | h)
  ·exact .inr (.inr (.inl h))
  ·exact .inr (.inr (.inr h))
  ·exact .inl h
  ·exact .inr (.inl h)
theorem join_bk' (a b : EdT) : joinB a (bk b) = joinB a b := by rw [joinB_symm, join_bk, joinB_symm]
theorem meet_self {a : EdT} (h : a.1 ≠ a.2) : meet a.1 a.2 (bk a).1 (bk a).2 = 3 := meet_three.2 (by
 show M3 a.1 a.2 a.2 a.1
 exact .inl ⟨on_right a.2 a.1, on_left a.2 a.1, h⟩)
section
variable {o : List (Int × Int)} {L : List (List (Int × Int))}
theorem fit_prog (ho : Sound o) (hs : ∀ r ∈ L, Sound r) (hg : ∀ e ∈ edg o ++ edgs L, Gd e.1 ∧ Gd e.2) (hn : (edgs L).Nodup) (hm : MatchP (edgs L) o) (ha : ApartP (stAll (edg o ++ edgs L))) : Fit o L := by
 have hfn : (freeOf (edgs L) (edgs L)).Nodup := hn.filter _
 have hall : ∀ e ∈ edg o, e ∈ freeOf (edgs L) (edgs L) := sub_all hfn hm.2.1 (by rw [edg_len, hm.2.2]; exact Nat.le_refl _)
 refine ⟨ho, hs, hn, fun e he => (mem_free.1 (hall e he)).1, fun e he => ⟨fun h => (mem_free.1 (hall e h)).2, fun h => hm.2.1 e (mem_free.2 ⟨he, h⟩)⟩, fun a ha' b hb hab => ?_⟩
 have hne : a.1 ≠ a.2 := by
  obtain ⟨r, hr, her⟩ := mem_edgs.1 ha'
  exact edg_ne (hs r hr) her
 have hga := hg a (List.mem_append_right _ ha')
 have hgb := hg b (List.mem_append_right _ hb)
 by_cases hbk : b = bk a
 ·subst hbk
  rw [meet_self hne]
  exact ⟨by omega, fun h => absurd h (by omega), fun _ => rfl⟩
 ·have key : ∀ a' b', (a' = a ∨ a' = bk a) → (b' = b ∨ b' = bk b) → a' ∈ stAll (edg o ++ edgs L) → b' ∈ stAll (edg o ++ edgs L) → looseB a b = true := fun a' b' h1 h2 m1 m2 => by
   have hne' : a' ≠ b' := by
    rcases h1 with rfl | rfl <;> rcases h2 with rfl | rfl
    ·exact hab
    ·exact fun e => hbk (by rw [e, bk_bk])
    ·exact fun e => hbk e.symm
    ·exact fun e => hab (by rw [← bk_bk a, e, bk_bk])
   have hl : looseB a' b' = true := by
    obtain ⟨i, hi, rfl⟩ := List.getElem_of_mem m1
    obtain ⟨j, hj, rfl⟩ := List.getElem_of_mem m2
    rcases Nat.lt_trichotomy i j with k | k | k
    ·rw [looseB_symm]; exact ha j i hj k
    ·subst k; exact absurd rfl hne'
    ·exact ha i j hi k
   have g1 : Gd a'.1 ∧ Gd a'.2 := by rcases h1 with rfl | rfl; exact hga; exact gd_bk hga
   have g2 : Gd b'.1 ∧ Gd b'.2 := by rcases h2 with rfl | rfl; exact hgb; exact gd_bk hgb
   rw [loose_iff g1 g2] at hl
   rw [loose_iff hga hgb]
   have e1 : meet a'.1 a'.2 b'.1 b'.2 = meet a.1 a.2 b.1 b.2 := by
    rcases h1 with rfl | rfl <;> rcases h2 with rfl | rfl
    ·rfl
    ·exact meet_bk' _ _
    ·exact meet_bk _ _
    ·rw [meet_bk, meet_bk']
   have e2 : joinB a' b' = joinB a b := by
    rcases h1 with rfl | rfl <;> rcases h2 with rfl | rfl
    ·rfl
    ·exact join_bk' _ _
    ·exact join_bk _ _
    ·rw [join_bk, join_bk']
   rw [e1, e2] at hl
   exact hl
  have hl : looseB a b = true := by
   have h1 := fold_new (es := edg o ++ edgs L) (ks := []) (List.mem_append_right _ ha')
   have h2 := fold_new (es := edg o ++ edgs L) (ks := []) (List.mem_append_right _ hb)
   rcases h1 with h1 | h1 <;> rcases h2 with h2 | h2
   ·exact key a b (.inl rfl) (.inl rfl) h1 h2
   ·exact key a (bk b) (.inl rfl) (.inr rfl) h1 h2
   ·exact key (bk a) b (.inr rfl) (.inl rfl) h1 h2
   ·exact key (bk a) (bk b) (.inr rfl) (.inr rfl) h1 h2
  rw [loose_iff hga hgb] at hl
  rcases hl with h | ⟨h, h'⟩
  ·rw [h]; exact ⟨by omega, fun h => absurd h (by omega), fun h => absurd h (by omega)⟩
  ·rw [h]; exact ⟨by omega, fun _ => joinB_iff.1 h', fun h => absurd h (by omega)⟩
theorem prog_fit (h : Fit o L) (hg : ∀ e ∈ edg o ++ edgs L, Gd e.1 ∧ Gd e.2) : (edgs L).Nodup ∧ MatchP (edgs L) o ∧ ApartP (stAll (edg o ++ edgs L)) := by
 have hmem : ∀ e, e ∈ freeOf (edgs L) (edgs L) ↔ e ∈ edg o := fun e => by
  rw [mem_free]
  exact ⟨fun ⟨h1, h2⟩ => (h.both e h1).2 h2, fun he => ⟨h.out e he, (h.both e (h.out e he)).1 he⟩⟩
 have hp : (freeOf (edgs L) (edgs L)).Perm (edg o) := perm_nodup (h.once.filter _) (edg_nodup h.outer) hmem
 refine ⟨h.once, ⟨?_, fun e he => (hmem e).1 he, by rw [hp.length_eq, edg_len]⟩, ?_⟩
 ·refine (hp.map Prod.fst).nodup_iff.2 ?_
  unfold edg
  rw [List.map_map]
  refine List.Pairwise.map _ ?_ (List.pairwise_lt_range.imp_of_mem fun {a b} ha hb hab => (show (a, b).1 < (a, b).2 ∧ b < o.length from ⟨hab, List.mem_range.1 hb⟩))
  rintro a b ⟨hab, hb⟩ e
  simp only at hab
  exact (h.outer.2.2 a b (by rw [Nat.mod_eq_of_lt (by omega), Nat.mod_eq_of_lt hb]; omega)).1 e
 ·have hin : ∀ e ∈ stAll (edg o ++ edgs L), e ∈ edgs L := fun e he => by
   rcases fold_sub he with h1 | h1
   ·cases h1
   ·rcases List.mem_append.1 h1 with h1 | h1
    ·exact h.out e h1
    ·exact h1
  rw [apart_iff]
  refine (fold_far (es := edg o ++ edgs L) (ks := []) List.Pairwise.nil).imp_of_mem fun {a b} ha hb hab => ?_
  have h1 := hin a ha
  have h2 := hin b hb
  obtain ⟨c1, c2, c3⟩ := h.clear a h1 b h2 hab.1
  rw [loose_iff (hg a (List.mem_append_right _ h1)) (hg b (List.mem_append_right _ h2))]
  have hbd := meet_bound (a := a.1) (b := a.2) (c := b.1) (d := b.2)
  have h3 : meet a.1 a.2 b.1 b.2 ≠ 3 := fun e => hab.2 (by rw [c3 e, bk_bk])
  by_cases h4 : meet a.1 a.2 b.1 b.2 = 1
  ·exact .inr ⟨h4, joinB_iff.2 (c2 h4)⟩
  ·exact .inl (by omega)
end
theorem tot_sum : ∀ (ns : List Int) (s : Int), (∀ k, k ≤ ns.length → InR (s + sumL id (ns.take k))) → (∀ n ∈ ns, InR n) → totFrom (ns.map fun n => (hiOf n, loOf n)) (hiOf s, loOf s) = some (hiOf (s + sumL id ns), loOf (s + sumL id ns))
 |[], s, _, _ => by simp [totFrom, sumL]
 |n :: ns, s, h, hn => by
  have h1 := h 1 (by simp)
  have h0 := h 0 (Nat.zero_le _)
  have e1 : s + sumL id ((n :: ns).take 1) = s + n := by simp [sumL]
  rw [e1] at h1
  have e0 : s + sumL id ((n :: ns).take 0) = s := by simp [sumL]
  rw [e0] at h0
  obtain ⟨f1, f2, f3⟩ := fitW_of h0 (hn n List.mem_cons_self) h1
  rw [List.map_cons]
  simp only [totFrom]
  rw [if_pos f1, f2, f3, tot_sum ns (s + n) (fun k hk => ?_) (fun m hm => hn m (List.mem_cons_of_mem _ hm))]
  ·have : s + sumL id (n :: ns) = s + n + sumL id ns := by simp only [sumL, id]; omega
   rw [this]
  ·have := h (k + 1) (by simpa using hk)
   rw [List.take_succ_cons] at this
   have e : s + n + sumL id (ns.take k) = s + sumL id (n :: ns.take k) := by simp only [sumL, id]; omega
   rw [e]; exact this
theorem sum_areas (l : List PV) : ∀ k, k ≤ l.length → sumL id ((l.map fun x => area x.par.ring).take k) = areaS l k
 |0, _ => rfl
 |k + 1, h => by
  have hlt : k < l.length := by omega
  rw [List.take_succ_eq_append_getElem (by rw [List.length_map]; exact hlt), sumL_append, sum_areas l k (by omega), areaS_succ (List.getElem?_eq_getElem hlt), List.getElem_map]
  simp only [sumL, id]; omega
theorem areaS_lim {l : List PV} (h : ∀ x ∈ l, NormP x.par.ring) : ∀ k, k ≤ l.length → -(k * (128 * 2305843009213693952)) ≤ areaS l k ∧ areaS l k ≤ k * (128 * 2305843009213693952)
 |0, _ => by simp [areaS]
 |k + 1, hk => by
  have hlt : k < l.length := by omega
  have h1 := areaS_lim h k (by omega)
  have h2 := area_lim (h _ (List.getElem_mem hlt)).1
  rw [areaS_succ (List.getElem?_eq_getElem hlt)]
  omega
theorem fill_iff {o : List (Int × Int)} {l : List PV} (hl : l.length ≤ 64) (ho : NormP o) (h : ∀ x ∈ l, NormP x.par.ring) : fillB o l = true ↔ areaS l l.length = area o := by
 have hw : areasL l = (l.map fun x => area x.par.ring).map fun n => (hiOf n, loOf n) := by
  unfold areasL
  rw [List.map_map]
  refine List.map_congr_left fun x hx => ?_
  obtain ⟨a1, a2, _⟩ := arHL (h x hx).1
  rw [a1, a2]; rfl
 have hlen : (l.map fun x => area x.par.ring).length = l.length := List.length_map _
 have hlim : ∀ k, k ≤ l.length → InR (areaS l k) := fun k hk => by
  have := areaS_lim h k hk
  have hk' : (k : Int) * (128 * 2305843009213693952) ≤ 64 * (128 * 2305843009213693952) := by omega
  unfold InR; omega
 have ht := tot_sum (l.map fun x => area x.par.ring) 0 (fun k hk => by
  rw [hlen] at hk
  rw [Int.zero_add, sum_areas l k hk]; exact hlim k hk) (fun n hn => by
  obtain ⟨x, hx, rfl⟩ := List.mem_map.1 hn
  have := area_lim (h x hx).1
  unfold InR; omega)
 have hfull : sumL id (l.map fun x => area x.par.ring) = areaS l l.length := by
  have := sum_areas l l.length (Nat.le_refl _)
  rw [List.take_of_length_le (by rw [hlen]; exact Nat.le_refl _)] at this
  exact this
 have h00 : (hiOf 0, loOf 0) = ((0 : Int), (0 : Int)) := by decide
 rw [Int.zero_add, hfull, h00, ← hw] at ht
 obtain ⟨a1, a2, _⟩ := arHL ho.1
 unfold fillB tH tL
 rw [ht, a1, a2, Bool.and_eq_true, decide_eq_true_iff, decide_eq_true_iff]
 constructor
 ·rintro ⟨h1, h2⟩
  simp only at h1 h2
  rw [← val_of (areaS l l.length), ← val_of (area o), h1, h2]
 ·intro e
  simp only
  rw [e]
  exact ⟨rfl, rfl⟩

theorem norm_sound {r : List (Int × Int)} (h : NormP r) : Sound r := (chE_zero.1 h.1).2
theorem all_gd {o : List (Int × Int)} {l : List PV} (ho : NormP o) (h : ∀ x ∈ l, NormP x.par.ring) : ∀ e ∈ edg o ++ edgs (rings l), Gd e.1 ∧ Gd e.2 := fun e he => by
 rcases List.mem_append.1 he with he | he
 ·exact edg_gd (normP_small ho).2.2 he
 ·exact es_gd h e he
theorem check_same (o : List (Int × Int)) (Ao : Option Addr) (co : Nat) (l : List PV) : CheckQ o Ao co l ↔ CheckP o l := by
 have hcorn : cornL (allRV o Ao co l) (allRV o Ao co l).length = cornN o l l.length := by
  have h1 := cornL_le (rs := allRV o Ao co l) _ (Nat.le_refl _)
  rw [List.take_length, rgs_all, edgs_cons, List.length_append, edg_len] at h1
  have h2 := edgs_cornN o l l.length (Nat.le_refl _)
  rw [List.take_length] at h2
  omega
 have hbord : ∀ {k : Nat} {x : RV}, (allRV o Ao co l)[k]? = some x → x.ring = o ∨ ∃ y ∈ l, x.ring = y.par.ring := fun {k x} hx => by
  unfold allRV at hx
  cases k with
  |zero => rw [List.getElem?_cons_zero] at hx; obtain rfl := Option.some.inj hx; exact .inl rfl
  |succ k =>
   rw [List.getElem?_cons_succ, List.getElem?_map] at hx
   cases h : l[k]? with
   |none => rw [h] at hx; cases hx
   |some y =>
    rw [h] at hx
    obtain rfl := Option.some.inj hx
    exact .inr ⟨y, List.mem_of_getElem? h, rfl⟩
 constructor
 ·rintro ⟨hnum, hbor, hnd, hmt, hfl, hap⟩
  obtain ⟨hno, hnl, hsz⟩ := bord_spec hbor
  have hfine : FineP o l := by
   refine ⟨fun k hk x hx => ?_, hnum.1, hnum.2.1, by rw [← hcorn]; exact hbor.2⟩
   obtain ⟨a1, a2, a3⟩ := hnum.2.2 k hk x hx
   have := cornN_mono (o := o) (l := l) (show k + 1 ≤ l.length by omega)
   exact ⟨a2, a1, a3, by have := hbor.2; rw [hcorn] at this; omega⟩
  have hF := fit_prog (norm_sound hno) (fun r hr => by obtain ⟨x, hx, rfl⟩ := List.mem_map.1 hr; exact norm_sound (hnl x hx)) (all_gd hno hnl) hnd hmt hap
  obtain ⟨t1, t2⟩ := hF.tries
  refine ⟨hfine, hno, hnl, (fill_iff hnum.2.1 hno hnl).1 hfl, fun i hi e he => ?_, fun i j hij hj a b ha hb => ?_, hF.out⟩
  ·obtain rfl : (edgs (rings l))[i] = e := by rw [List.getElem?_eq_getElem hi] at he; exact Option.some.inj he
   refine ⟨fun j hj hh => ?_, (t1 i hi).2⟩
   rw [List.getElem?_eq_getElem (by omega)] at hh
   exact (t1 i hi).1 j hj (Option.some.inj hh)
  ·obtain rfl : (edgs (rings l))[i] = a := by rw [List.getElem?_eq_getElem (by omega)] at ha; exact Option.some.inj ha
   obtain rfl : (edgs (rings l))[j] = b := by rw [List.getElem?_eq_getElem hj] at hb; exact Option.some.inj hb
   exact t2 i j hij hj
 ·rintro ⟨hfine, hno, hnl, har, hed, hpr, hout⟩
  have hF : Fit o (rings l) := fit_of (norm_sound hno) (fun r hr => by obtain ⟨x, hx, rfl⟩ := List.mem_map.1 hr; exact norm_sound (hnl x hx))
   (fun i hi => ⟨fun j hj hh => (hed i hi _ (List.getElem?_eq_getElem hi)).1 j hj (by rw [List.getElem?_eq_getElem (by omega), hh]), (hed i hi _ (List.getElem?_eq_getElem hi)).2⟩)
   (fun i j hij hj => hpr i j hij hj _ _ (List.getElem?_eq_getElem (by omega)) (List.getElem?_eq_getElem hj)) hout
  obtain ⟨p1, p2, p3⟩ := prog_fit hF (all_gd hno hnl)
  refine ⟨⟨hfine.2.1, hfine.2.2.1, fun k hk x hx => ?_⟩, ⟨fun k x hx => ?_, by rw [hcorn]; exact hfine.2.2.2⟩, p1, p2, (fill_iff hfine.2.2.1 hno hnl).2 har, p3⟩
  ·obtain ⟨a1, a2, a3, _⟩ := hfine.1 k hk x hx
   exact ⟨a2, a1, a3⟩
  ·rcases hbord hx with h | ⟨y, hy, h⟩
   ·rw [h]; exact hno
   ·rw [h]; exact hnl y hy
theorem check_eq (o : List (Int × Int)) (Ao : Option Addr) (co : Nat) (l : List PV) : checkB o Ao co l = chkB o l := by
 rw [Bool.eq_iff_iff, checkB_iff, chkB_iff]; exact check_same o Ao co l
end Go.Proofs.YtjlnjjmomohpaaaGreat
