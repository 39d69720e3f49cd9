/- The document's SameParcel and Same. -/
import Derived.Test.YtfjfmieadedjoaaRefFine
namespace Go.Proofs.Ytfjfmieadedjoaa
open Go.RowKit

theorem par_ext (a b : Par) : a = b ↔ a.id = b.id ∧ a.own = b.own ∧ a.ring = b.ring := by
 constructor
 ·rintro rfl; exact ⟨rfl, rfl, rfl⟩
 ·rintro ⟨h1, h2, h3⟩
  cases a; cases b
  simp only at h1 h2 h3
  rw [h1, h2, h3]
theorem bytes_eq {s t : ByteArray} (h : s.toList = t.toList) : s = t := by
 rw [ByteArray.toList_eq, ByteArray.toList_eq] at h
 cases s; cases t
 exact congrArg _ (Array.toList_inj.1 h)
noncomputable instance : DecidableEq Par := fun a b => decidable_of_iff _ (par_ext a b).symm
set_option maxRecDepth 100000 in
set_option maxHeartbeats 1000000 in
theorem ref_samePar (i1 : Int) (r1 : List (Int × Int)) (s1 : ByteArray) (A1 : Option Addr) (c1 : Nat) (i2 : Int) (r2 : List (Int × Int)) (s2 : ByteArray) (A2 : Option Addr) (c2 : Nat) (hn : r1.length ≤ maxLen) (w : World) (h1 : Pts w w.heap.size A1 r1) (h2 : Pts w w.heap.size A2 r2) :
  Calls Try.prog 16 #[.agg #[.int .i64 i1, .slice A1 r1.length c1, .string s1], .agg #[.int .i64 i2, .slice A2 r2.length c2, .string s2]] w fun e w' => e = .returned (.bool (decide ((⟨i1, r1, s1⟩ : Par) = ⟨i2, r2, s2⟩))) ∧ Below w.heap.size w w' := by
 have HQ := ((Hold.refl w).new #[.int .i64 i1, .slice A1 r1.length c1, .string s1] 39).new #[.int .i64 i2, .slice A2 r2.length c2, .string s2] 39
 have HSM := Lib.hid (fun W (hb : Below w.heap.size w W) => ref_same r1 r2 A1 A2 c1 c2 hn W (h1.on hb) (h2.on hb))
 clear h1 h2 hn
 have HD : Hid (decide ((⟨i1, r1, s1⟩ : Par) = ⟨i2, r2, s2⟩) = (decide (i1 = i2) && decide (s1 = s2) && decide (r1 = r2))) := by
  unfold Hid
  rw [Bool.eq_iff_iff, decide_eq_true_iff, Bool.and_eq_true, Bool.and_eq_true, decide_eq_true_iff, decide_eq_true_iff, decide_eq_true_iff, par_ext]
  exact ⟨fun ⟨a, b, c⟩ => ⟨⟨a, b⟩, c⟩, fun ⟨⟨a, b⟩, c⟩ => ⟨a, b, c⟩⟩
 go_enter Try.func16, Try.ntmps16
 go_upto_region 1 with (fail)
 simp only [World.size_alloc] at HQ
 generalize (World.alloc _ _) = W1 at HQ ⊢
 obtain ⟨g1, hg1⟩ : ∃ g, w.heap.size + 1 = g := ⟨_, rfl⟩
 rw [hg1] at HQ ⊢
 obtain ⟨g0, hg0⟩ : ∃ g, w.heap.size = g := ⟨_, rfl⟩
 rw [hg0] at HQ ⊢
 clear hg1 hg0
 obtain ⟨a0, a1, a2⟩ := HQ.q3 (.tail _ (.head _))
 obtain ⟨b0, b1, b2⟩ := HQ.q3 (.head _)
 have HB := Lib.hid HQ.1
 clear HQ
 by_cases e1 : i1 = i2
 ·by_cases e2 : s1 = s2
  ·subst e1; subst e2
   go_wp2_with (go_at_call 17; go_must (refine (HSM.out _ HB.out).mono ?_; rintro e' W2 ⟨rfl, hB⟩; have HB2 := Lib.hid (HB.out.trans (hB.mono HB.out.size)); clear hB))
   go_ret
   rw [HD.out]
   exact ⟨by simp, HB2.out⟩
  ·have f1 : (i1 == i2) = true := by simpa using e1
   have f2 : (s1.toList == s2.toList) = false := by
    rw [Bool.eq_false_iff]; intro h; exact e2 (bytes_eq (eq_of_beq h))
   have HE : Hid (decide ((⟨i1, r1, s1⟩ : Par) = ⟨i2, r2, s2⟩) = false) := by unfold Hid; rw [HD.out, decide_eq_false e2, Bool.and_false, Bool.false_and]
   clear e1 e2 HD
   go_wp2
   go_ret
   rw [HE.out]
   exact ⟨rfl, HB.out⟩
 ·have f1 : (i1 == i2) = false := by simpa using e1
  have HE : Hid (decide ((⟨i1, r1, s1⟩ : Par) = ⟨i2, r2, s2⟩) = false) := by unfold Hid; rw [HD.out, decide_eq_false e1, Bool.false_and, Bool.false_and]
  clear e1 HD
  go_wp2
  go_ret
  rw [HE.out]
  exact ⟨rfl, HB.out⟩

section
variable {l l' : List PV}
theorem par_take {k : Nat} (h1 : k < l.length) (h2 : k < l'.length) (h : (l.map PV.par).take k = (l'.map PV.par).take k) : (l.map PV.par).take (k + 1) = (l'.map PV.par).take (k + 1) ↔ l[k].par = l'[k].par := by
 rw [List.take_succ_eq_append_getElem (by simpa using h1), List.take_succ_eq_append_getElem (by simpa using h2), h, List.getElem_map, List.getElem_map]
 constructor
 ·intro e; exact List.head_eq_of_cons_eq (List.append_cancel_left e)
 ·intro e; rw [e]
theorem par_end {k : Nat} (hk : ¬ k < l.length ∨ ¬ k < l'.length) (h1 : k ≤ l.length) (_ : k ≤ l'.length) (h : (l.map PV.par).take k = (l'.map PV.par).take k) : l.map PV.par = l'.map PV.par ↔ (l.length : Int) = (l'.length : Int) := by
 constructor
 ·intro e; have := congrArg List.length e; rw [List.length_map, List.length_map] at this; rw [this]
 ·intro e
  have e1 : k = l.length := by omega
  have e2 : k = l'.length := by omega
  rw [List.take_of_length_le (by rw [List.length_map]; omega), List.take_of_length_le (by rw [List.length_map]; omega)] at h
  exact h
theorem Hold.par2 {w W : World} {g0 g1 : Nat} {u0 v0 u1 v1 : Value} {t0 t1 : TypeId} {ad ae : Addr} (h : Hold w [(g1, #[u1, v1], t1), (g0, #[u0, v0], t0)] W) (hp : Prs w (some ad) l) (hq : Prs w (some ae) l') {k : Nat} (h1 : k < l.length) (h2 : k < l'.length) :
  (W.cell? ⟨g0, 0, none⟩ = some u0 ∧ W.cell? ⟨g0, 1, none⟩ = some v0 ∧ W.cell? ⟨g1, 0, none⟩ = some u1 ∧ W.cell? ⟨g1, 1, none⟩ = some v1) ∧
  (W.cell? (ad.add (k * 3)) = some (.int .i64 l[k].par.id) ∧ W.cell? ⟨(ad.add (k * 3)).block, (ad.add (k * 3)).off + 1, none⟩ = some (.slice l[k].A l[k].par.ring.length l[k].cap) ∧ W.cell? ⟨(ad.add (k * 3)).block, (ad.add (k * 3)).off + 2, none⟩ = some (.string l[k].par.own)) ∧
  W.cell? (ae.add (k * 3)) = some (.int .i64 l'[k].par.id) ∧ W.cell? ⟨(ae.add (k * 3)).block, (ae.add (k * 3)).off + 1, none⟩ = some (.slice l'[k].A l'[k].par.ring.length l'[k].cap) ∧ W.cell? ⟨(ae.add (k * 3)).block, (ae.add (k * 3)).off + 2, none⟩ = some (.string l'[k].par.own) := by
 obtain ⟨a, e, -, c0⟩ := (hp.on h.1).at h1
 obtain ⟨b, e', -, d0⟩ := (hq.on h.1).at h2
 obtain rfl := Option.some.inj e
 obtain rfl := Option.some.inj e'
 exact ⟨h.rd2, c0, d0⟩
end
set_option maxRecDepth 100000 in
set_option maxHeartbeats 1000000 in
theorem ref_samePlan (o o' : List (Int × Int)) (Ao : Option Addr) (co : Nat) (l : List PV) (Ap : Option Addr) (cp : Nat) (Ao' : Option Addr) (co' : Nat) (l' : List PV) (Ap' : Option Addr) (cp' : Nat) (hn : o.length ≤ maxLen) (hl : l.length ≤ 8796093022208) (w : World) (hp : Prs w Ap l) (hq : Prs w Ap' l') (ho : Pts w w.heap.size Ao o) (ho' : Pts w w.heap.size Ao' o') :
  Calls Try.prog 8 #[.agg #[.slice Ao o.length co, .slice Ap l.length cp], .agg #[.slice Ao' o'.length co', .slice Ap' l'.length cp']] w fun e w' => e = .returned (.bool (decide (o = o' ∧ l.map PV.par = l'.map PV.par))) ∧ Below w.heap.size w w' := by
 have HQ := ((Hold.refl w).new #[.slice Ao o.length co, .slice Ap l.length cp] 26).new #[.slice Ao' o'.length co', .slice Ap' l'.length cp'] 26
 have HSM := Lib.hid (fun K W (h : Hold w K W) => ref_same o o' Ao Ao' co co' hn W (ho.on h.1) (ho'.on h.1))
 have HPP := Lib.hid hp
 have HQQ := Lib.hid hq
 clear ho ho' hn hp hq
 go_enter Try.func8, Try.ntmps8
 go_upto_region 1 with (fail)
 simp only [World.size_alloc] at HQ
 generalize (World.alloc _ _) = W1 at HQ ⊢
 obtain ⟨g1, hg1⟩ : ∃ g, w.heap.size + 1 = g := ⟨_, rfl⟩
 rw [hg1] at HQ ⊢
 obtain ⟨g0, hg0⟩ : ∃ g, w.heap.size = g := ⟨_, rfl⟩
 rw [hg0] at HQ ⊢
 clear hg1 hg0
 go_wp2_with fail
 go_loopg [5] l.length (fun g i wr => ∃ k : Nat, k ≤ l.length ∧ k ≤ l'.length ∧ g = l.length - k ∧ i = .int .i64 k ∧ (l.map PV.par).take k = (l'.map PV.par).take k ∧ Hold w [(g1, #[.slice Ao' o'.length co', .slice Ap' l'.length cp'], 26), (g0, #[.slice Ao o.length co, .slice Ap l.length cp], 26)] wr)
 case atStart => exact ⟨0, Nat.zero_le _, Nat.zero_le _, rfl, rfl, rfl, HQ⟩
 case round =>
  clear HQ
  obtain ⟨k, hk, hk', hgk, rfl, htk, HB⟩ := hrel
  have HGK := Lib.hid hgk
  have HTK := Lib.hid htk
  clear hgk htk
  have b0 : (0 : Int) ≤ (k : Int) := by omega
  have HND : Hid (¬ (k < l.length ∧ k < l'.length) → (l.map PV.par = l'.map PV.par ↔ (l.length : Int) = (l'.length : Int))) := fun h => par_end (by omega) hk hk' HTK.out
  by_cases h1 : k < l.length
  ·by_cases h2 : k < l'.length
   ·obtain ⟨ad, rfl, -, -⟩ := HPP.out.at h1
    obtain ⟨ae, rfl, -, -⟩ := HQQ.out.at h2
    have b1 : (k : Int) < (l.length : Int) := by omega
    have b2 : (k : Int) < (l'.length : Int) := by omega
    have HS := Lib.hid (par_take h1 h2 HTK.out)
    have HNE : Hid (l[k].par ≠ l'[k].par → decide (o = o' ∧ l.map PV.par = l'.map PV.par) = false) := fun h => decide_eq_false fun e => h (by
     have := congrArg (fun q => q[k]?) e.2
     simpa only [List.getElem?_map, List.getElem?_eq_getElem h1, List.getElem?_eq_getElem h2, Option.map_some, Option.some.injEq] using this)
    have HF := Lib.hid (fun W (h : Hold w [(g1, #[.slice Ao' o'.length co', .slice (some ae) l'.length cp'], 26), (g0, #[.slice Ao o.length co, .slice (some ad) l.length cp], 26)] W) => h.par2 HPP.out HQQ.out h1 h2)
    have HSP := Lib.hid (fun W (h : Hold w [(g1, #[.slice Ao' o'.length co', .slice (some ae) l'.length cp'], 26), (g0, #[.slice Ao o.length co, .slice (some ad) l.length cp], 26)] W) =>
     ref_samePar l[k].par.id l[k].par.ring l[k].par.own l[k].A l[k].cap l'[k].par.id l'[k].par.ring l'[k].par.own l'[k].A l'[k].cap (by have := (HPP.out.2 _ (List.getElem_mem h1)).2.2; unfold maxLen; omega) W ((HPP.out.2 _ (List.getElem_mem h1)).1.on h.1) ((HQQ.out.2 _ (List.getElem_mem h2)).1.on h.1))
    generalize l[k] = x at *
    generalize l'[k] = y at *
    obtain ⟨⟨i1, r1, s1⟩, A1, c1⟩ := x
    obtain ⟨⟨i2, r2, s2⟩, A2, c2⟩ := y
    obtain ⟨b, hbb⟩ : ∃ b, decide ((⟨i1, r1, s1⟩ : Par) = ⟨i2, r2, s2⟩) = b := ⟨_, rfl⟩
    rw [hbb] at HSP
    have HBB := Lib.hid hbb
    clear hbb
    obtain ⟨⟨a0, a1, a2, a3⟩, -⟩ := HF.out _ HB
    go_upto_region 4 with (fail)
    clear a0 a1 a2 a3
    go_cut [31] (fun s31 wx => s31 = .bool (!b) ∧ Hold w [(g1, #[.slice Ao' o'.length co', .slice (some ae) l'.length cp'], 26), (g0, #[.slice Ao o.length co, .slice (some ad) l.length cp], 26)] wx)
    case first =>
     go_region_held3 (fun W => (W.cell? ⟨g0, 0, none⟩ = some (.slice Ao o.length co) ∧ W.cell? ⟨g0, 1, none⟩ = some (.slice (some ad) l.length cp) ∧ W.cell? ⟨g1, 0, none⟩ = some (.slice Ao' o'.length co') ∧ W.cell? ⟨g1, 1, none⟩ = some (.slice (some ae) l'.length cp')) ∧ (W.cell? (ad.add (k * 3)) = some (.int .i64 i1) ∧ W.cell? ⟨(ad.add (k * 3)).block, (ad.add (k * 3)).off + 1, none⟩ = some (.slice A1 r1.length c1) ∧ W.cell? ⟨(ad.add (k * 3)).block, (ad.add (k * 3)).off + 2, none⟩ = some (.string s1)) ∧ W.cell? (ae.add (k * 3)) = some (.int .i64 i2) ∧ W.cell? ⟨(ae.add (k * 3)).block, (ae.add (k * 3)).off + 1, none⟩ = some (.slice A2 r2.length c2) ∧ W.cell? ⟨(ae.add (k * 3)).block, (ae.add (k * 3)).off + 2, none⟩ = some (.string s2)) (first | exact HF.out _ (by assumption) | exact HF.out _ (Hold.drew (by assumption))) ((go_at_call 16; (with_reducible refine (HSP.out _ (by first | assumption | exact Hold.drew (by assumption))).mono ?_); rintro e w' ⟨rfl, hB⟩; have HS' := Hold.on (L := [(g1, #[.slice Ao' o'.length co', .slice (some ae) l'.length cp'], 26), (g0, #[.slice Ao o.length co, .slice (some ad) l.length cp], 26)]) (by first | assumption | exact Hold.drew (by assumption)) hB))
     go_wp2_with fail
     go_meet
     exact ⟨rfl, HS'⟩
    case rest =>
     clear HB HF HSP
     obtain ⟨rfl, HB⟩ := hcut
     cases b
     ·have HT := Lib.hid (HNE.out (of_decide_eq_false HBB.out))
      have HK := Lib.hid HB.1
      clear HBB HS HNE HB HTK HND
      go_wp2
      go_ret
      rw [HT.out]
      exact ⟨rfl, HK.out⟩
     ·have HT := Lib.hid (HS.out.2 (of_decide_eq_true HBB.out))
      have HK := Lib.hid HB
      clear HBB HS HNE HB HTK HND
      go_wp2
      go_roundg (l.length - (k + 1))
      case measure => have := HGK.out; omega
      case rel => exact ⟨k + 1, by omega, by omega, rfl, by go_num, HT.out, HK.out⟩
   ·have HE := Lib.hid (HND.out (fun h => h2 h.2))
    have HX := Lib.hid HB
    obtain ⟨a0, a1, a2, a3⟩ := HB.rd2
    clear HND HTK HB HGK
    by_cases e : (l.length : Int) = (l'.length : Int)
    ·have e1 : ((l.length : Int) == (l'.length : Int)) = true := by simpa using e
     have HT := Lib.hid (HE.out.2 e)
     clear e HE
     go_wp2_with (go_at_call 17; go_must (refine (HSM.out _ _ HX.out).mono ?_; rintro e' W2 ⟨rfl, hB⟩; have HB2 := Lib.hid (HX.out.on hB).1; clear hB))
     go_ret
     exact ⟨by simp [HT.out], HB2.out⟩
    ·have e1 : ((l.length : Int) == (l'.length : Int)) = false := by simpa using e
     have HT : Hid (decide (o = o' ∧ l.map PV.par = l'.map PV.par) = false) := decide_eq_false fun h => e (HE.out.1 h.2)
     clear e HE
     go_wp2
     go_ret
     rw [HT.out]
     exact ⟨rfl, HX.out.1⟩
  ·have HE := Lib.hid (HND.out (fun h => h1 h.1))
   have HX := Lib.hid HB
   obtain ⟨a0, a1, a2, a3⟩ := HB.rd2
   clear HND HTK HB HGK
   by_cases e : (l.length : Int) = (l'.length : Int)
   ·have e1 : ((l.length : Int) == (l'.length : Int)) = true := by simpa using e
    have HT := Lib.hid (HE.out.2 e)
    clear e HE
    go_wp2_with (go_at_call 17; go_must (refine (HSM.out _ _ HX.out).mono ?_; rintro e' W2 ⟨rfl, hB⟩; have HB2 := Lib.hid (HX.out.on hB).1; clear hB))
    go_ret
    exact ⟨by simp [HT.out], HB2.out⟩
   ·have e1 : ((l.length : Int) == (l'.length : Int)) = false := by simpa using e
    have HT : Hid (decide (o = o' ∧ l.map PV.par = l'.map PV.par) = false) := decide_eq_false fun h => e (HE.out.1 h.2)
    clear e HE
    go_wp2
    go_ret
    rw [HT.out]
    exact ⟨rfl, HX.out.1⟩
end Go.Proofs.Ytfjfmieadedjoaa
