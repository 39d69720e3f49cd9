/- The program's cut: what keeps a path from being one. -/
import Derived.Test.YtaedlfiafnbceaaGreatCutC
import Derived.Test.YtaedlfiafnbceaaGreatGeoAns
import Derived.Test.YtaedlfiafnbceaaGreatCutM
import Derived.Test.YtaedlfiafnbceaaGreatPlanB
import Derived.Test.YtaedlfiafnbceaaGreatCutH
import Derived.Test.YtaedlfiafnbceaaGreatFind
namespace Go.Proofs.YtaedlfiafnbceaaGreat
open Go.RowKit

set_option maxHeartbeats 1000000 in
theorem isFresh_any (x : Par) (A : Option Addr) (c : Nat) (n : Int) (g7 : Nat) (w : World) (hg : w.cell? ⟨g7, 0, none⟩ = some (.int .i64 n)) (hl : g7 < w.heap.size) :
  Calls Tryz.prog 52 #[.agg #[.int .i64 x.id, .slice A x.ring.length c, .string x.own], .pointer (some ⟨g7, 0, none⟩)] w fun e w' => e = .returned (.bool (x.id == n)) ∧ Below w.heap.size w w' := by
 have HQ := (Hold.refl w).new #[.int .i64 x.id, .slice A x.ring.length c, .string x.own] 37
 have HG : Hid (∀ K W, Hold w K W → W.cell? ⟨g7, 0, none⟩ = some (.int .i64 n)) := fun K W h => (h.1.cell (p := ⟨g7, 0, none⟩) hl).trans hg
 have d0 := HG.out _ _ HQ
 clear hg hl
 go_enter Tryz.func52, Tryz.ntmps52
 go_upto_region 1 with (fail)
 generalize (World.alloc _ _) = W1 at HQ d0 ⊢
 generalize w.heap.size = g0 at HQ ⊢
 obtain ⟨c0, -⟩ := HQ.q3 (.head _)
 have HQ1 := Lib.hid HQ
 clear HQ
 go_wp2
 go_ret
 exact ⟨rfl, HQ1.out.1⟩
set_option maxRecDepth 100000 in
set_option maxHeartbeats 2000000 in
theorem idxFresh_any (l : List PV) (Ap : Option Addr) (cp : Nat) (n : Int) (g7 : Nat) (hn : l.length ≤ 1000000) (w : World) (hr : Prs w Ap l) (hg : w.cell? ⟨g7, 0, none⟩ = some (.int .i64 n)) (hl : g7 < w.heap.size) :
  Calls Tryz.prog 69 #[.slice Ap l.length cp, .func (.func 52) #[] #[.pointer (some ⟨g7, 0, none⟩)]] w fun e w' => ∃ i : Int, e = .returned (.int .i64 i) ∧ Below w.heap.size w w' ∧ (0 ≤ i ↔ ∃ x ∈ l, x.par.id = n) := by
 have HS : Hid (l.length ≤ 1000000) := hn
 have HR := Lib.hid hr
 have HC := Lib.hid (fun W (hb : Below w.heap.size w W) x A c => isFresh_any x A c n g7 W ((hb.cell (p := ⟨g7, 0, none⟩) hl).trans hg) (Nat.lt_of_lt_of_le hl hb.size))
 have HB0 := Below.refl w.heap.size w
 clear hr hg hl hn
 go_enter Tryz.func69, Tryz.ntmps69
 go_wp2_with fail
 go_loopg [8] l.length (fun gg i wr => ∃ k : Nat, k ≤ l.length ∧ gg = l.length - k ∧ i = .int .i64 k ∧ (∀ x ∈ l.take k, x.par.id ≠ n) ∧ Below w.heap.size w wr)
 case atStart => exact ⟨0, Nat.zero_le _, rfl, rfl, fun x hx => by simp at hx, HB0⟩
 case round =>
  clear HB0
  obtain ⟨k, hk, hgk, rfl, hno, hB⟩ := hrel
  have HGK := Lib.hid hgk
  have HNO := Lib.hid hno
  have HB := Lib.hid hB
  clear hgk hno
  by_cases hlt : k < l.length
  ·have b0 : (0 : Int) ≤ (k : Int) := by omega
   have b1 : (k : Int) < (l.length : Int) := by omega
   have hws : IntKind.i64.wrap ((k : Int) + 1) = (k : Int) + 1 := by have := HS.out; rw [IntKind.wrap_i64]; omega
   obtain ⟨ad, hA, -, d0, d1, d2⟩ := (HR.out.on hB).at hlt
   have HX : Hid (l[k] ∈ l) := List.getElem_mem hlt
   have HGN : Hid (l[k].par.id ≠ n → ∀ x ∈ l.take (k + 1), x.par.id ≠ n) := fun h x hx => by
    rw [List.take_succ_eq_append_getElem hlt, List.mem_append, List.mem_singleton] at hx
    rcases hx with hx | rfl
    ·exact HNO.out x hx
    ·exact h
   have HRX := Lib.hid HR.out
   clear HR hB
   subst hA
   generalize l[k] = x at *
   have HC1 := Lib.hid (HC.out wr HB.out x.par x.A x.cap)
   have HCC := Lib.hid HC.out
   clear HC
   cases hid : (x.par.id == n)
   ·have HN := Lib.hid (HGN.out (by simpa using hid))
    rw [hid] at HC1
    clear hid
    go_wp2_with (go_at_call 52; go_must (refine HC1.out.mono ?_; rintro e' W3 ⟨rfl, hB3⟩; have HB3 := Lib.hid (HB.out.trans (hB3.mono HB.out.size)); clear hB3))
    go_roundg (l.length - (k + 1))
    case measure => have := HGK.out; omega
    case rel => exact ⟨k + 1, by omega, rfl, by go_num, HN.out, HB3.out⟩
   ·have HID : Hid (x.par.id = n) := by unfold Hid; simpa using hid
    rw [hid] at HC1
    clear hid
    go_wp2_with (go_at_call 52; go_must (refine HC1.out.mono ?_; rintro e' W3 ⟨rfl, hB3⟩; have HB3 := Lib.hid (HB.out.trans (hB3.mono HB.out.size)); clear hB3))
    go_ret
    exact ⟨_, rfl, HB3.out, ⟨fun _ => ⟨x, HX.out, HID.out⟩, fun _ => by omega⟩⟩
  ·obtain rfl : k = l.length := by omega
   rw [List.take_length] at HNO
   clear hB
   go_wp2
   go_ret
   exact ⟨_, rfl, HB.out, ⟨fun h => absurd h (by decide), fun ⟨x, hx, e⟩ => absurd e (HNO.out x hx)⟩⟩
set_option maxHeartbeats 1000000 in
theorem hasFresh_any (l : List PV) (Ap : Option Addr) (cp : Nat) (n : Int) (g7 : Nat) (bb : Bool) (hbb : bb = true ↔ ∃ x ∈ l, x.par.id = n) (hn : l.length ≤ 1000000) (w : World) (hr : Prs w Ap l) (hg : w.cell? ⟨g7, 0, none⟩ = some (.int .i64 n)) (hl : g7 < w.heap.size) :
  Calls Tryz.prog 51 #[.slice Ap l.length cp, .func (.func 52) #[] #[.pointer (some ⟨g7, 0, none⟩)]] w fun e w' => e = .returned (.bool bb) ∧ Below w.heap.size w w' := by
 have HI := Lib.hid (idxFresh_any l Ap cp n g7 hn w hr hg hl)
 have HBB := Lib.hid hbb
 clear hr hg hl hn hbb
 go_enter Tryz.func51, Tryz.ntmps51
 go_wp2_with (go_at_call 69; go_must (refine HI.out.mono ?_; rintro e' W3 ⟨i, rfl, hB3, hi⟩; have HB3 := Lib.hid hB3; have HI3 := Lib.hid hi; clear hB3 hi))
 go_ret
 refine ⟨?_, HB3.out⟩
 have h := HI3.out.trans HBB.out.symm
 cases bb
 ·have : ¬ 0 ≤ i := fun hh => by have := h.1 hh; cases this
  simp [this]
 ·have := h.2 rfl
  simp [this]
end Go.Proofs.YtaedlfiafnbceaaGreat

namespace Go.Proofs.YtaedlfiafnbceaaGreat
open Go.RowKit

noncomputable def ftE (ids : List Int) (r path : List (Int × Int)) (fresh : Int) : Int :=
 if ¬ (idB fresh = true ∧ 2 ≤ path.length ∧ path.length ≤ 128) then 1 else if fresh ∈ ids then 6 else if gdL path = false then 3 else if ¬ (pF path ≠ pL path ∧ sdV r (pF path) = 0 ∧ sdV r (pL path) = 0) then 7 else 0
theorem ft_arg {ids : List Int} {r path : List (Int × Int)} {fresh : Int} (h : ¬ (idB fresh = true ∧ 2 ≤ path.length ∧ path.length ≤ 128)) : ftE ids r path fresh = 1 := by unfold ftE; rw [if_pos h]
theorem ft_there {ids : List Int} {r path : List (Int × Int)} {fresh : Int} (h : idB fresh = true ∧ 2 ≤ path.length ∧ path.length ≤ 128) (h2 : fresh ∈ ids) : ftE ids r path fresh = 6 := by unfold ftE; rw [if_neg (fun hh => hh h), if_pos h2]
theorem ft_range {ids : List Int} {r path : List (Int × Int)} {fresh : Int} (h : idB fresh = true ∧ 2 ≤ path.length ∧ path.length ≤ 128) (h2 : fresh ∉ ids) (h3 : gdL path = false) : ftE ids r path fresh = 3 := by unfold ftE; rw [if_neg (fun hh => hh h), if_neg h2, if_pos h3]
theorem ft_side {ids : List Int} {r path : List (Int × Int)} {fresh : Int} (h : idB fresh = true ∧ 2 ≤ path.length ∧ path.length ≤ 128) (h2 : fresh ∉ ids) (h3 : gdL path = true) (h4 : ¬ (pF path ≠ pL path ∧ sdV r (pF path) = 0 ∧ sdV r (pL path) = 0)) : ftE ids r path fresh = 7 := by unfold ftE; rw [if_neg (fun hh => hh h), if_neg h2, if_neg (by rw [h3]; decide), if_pos h4]
theorem ft_ok {ids : List Int} {r path : List (Int × Int)} {fresh : Int} (h : idB fresh = true ∧ 2 ≤ path.length ∧ path.length ≤ 128) (h2 : fresh ∉ ids) (h3 : gdL path = true) (h4 : pF path ≠ pL path ∧ sdV r (pF path) = 0 ∧ sdV r (pL path) = 0) : ftE ids r path fresh = 0 := by unfold ftE; rw [if_neg (fun hh => hh h), if_neg h2, if_neg (by rw [h3]; decide), if_neg (fun hh => hh h4)]
theorem ft_zero {ids : List Int} {r path : List (Int × Int)} {fresh : Int} (h : ftE ids r path fresh = 0) : (idB fresh = true ∧ 2 ≤ path.length ∧ path.length ≤ 128) ∧ fresh ∉ ids ∧ gdL path = true ∧ pF path ≠ pL path ∧ sdV r (pF path) = 0 ∧ sdV r (pL path) = 0 := by
 unfold ftE at h
 split at h
 ·cases h
 ·rename_i h1
  split at h
  ·cases h
  ·rename_i h2
   split at h
   ·cases h
   ·rename_i h3
    split at h
    ·cases h
    ·rename_i h4
     exact ⟨Classical.not_not.1 h1, h2, (Bool.not_eq_false _).mp h3, Classical.not_not.1 h4⟩
set_option maxRecDepth 100000 in
set_option maxHeartbeats 2000000 in
theorem fault_any (o : List (Int × Int)) (Ao : Option Addr) (co : Nat) (l : List PV) (Ap : Option Addr) (cp : Nat) (r path : List (Int × Int)) (B A : Option Addr) (cb ca : Nat) (fresh : Int) (hl : l.length ≤ 1000000) (hn : path.length * 16 ≤ 140737488355328) (hrn : r.length ≤ maxLen) (w : World) (hp : Prs w Ap l) (hr : Pts w w.heap.size B r) (hq : Pts w w.heap.size A path) :
  Calls Tryz.prog 36 #[.agg #[.slice Ao o.length co, .slice Ap l.length cp], .slice B r.length cb, .slice A path.length ca, .int .i64 fresh] w fun e w' => e = .returned (.int .i64 (ftE (l.map fun x => x.par.id) r path fresh)) ∧ Below w.heap.size w w' := by
 have HQ := ((Hold.refl w).new #[.slice Ao o.length co, .slice Ap l.length cp] 26).new' #[.int .i64 fresh] 3 (n := w.heap.size + 1) (by simp)
 have HPR := Lib.hid (fun K W (h : Hold w K W) => hp.on h.1)
 have HHF := Lib.hid (fun bb hbb g7 K W (h : Hold w K W) hg hlt => hasFresh_any l Ap cp fresh g7 bb hbb hl W (hp.on h.1) hg hlt)
 have HGD := Lib.hid (fun K W (h : Hold w K W) => good_any path A ca W (by unfold maxLen; omega) (hq.on h.1))
 have HSP := Lib.hid (fun (h1 : 1 ≤ path.length) (h2 : path.length ≤ 1000000) K W (h : Hold w K W) => spans_any path r A B ca cb h1 h2 hrn W (hq.on h.1) (hr.on h.1))
 have HL : Hid (path.length ≤ 9000000000000000000) := by unfold Hid; omega
 have hmem : fresh ∈ (l.map fun x => x.par.id) ↔ ∃ x ∈ l, x.par.id = fresh := List.mem_map
 have HM := Lib.hid hmem
 clear hp hr hq hl hn hrn hmem
 generalize (l.map fun x => x.par.id) = ids at *
 go_enter Tryz.func36, Tryz.ntmps36
 go_upto_region 1 with (fail)
 generalize (World.alloc _ _) = W1 at HQ ⊢
 generalize w.heap.size + 1 = g7 at HQ ⊢
 generalize w.heap.size = g4 at HQ ⊢
 obtain ⟨c0, c1⟩ := HQ.pt (.tail _ (.head _))
 have c2 := HQ.cell (.head _) 0
 have HZ := Lib.hid (HQ.lt (.head _))
 simp only [List.getElem?_toArray, List.getElem?_cons_zero] at c2
 have HQX := Lib.hid HQ
 clear HQ
 have hcase : fresh < 1 ∨ (¬ fresh < 1 ∧ 1073741824 < fresh) ∨ (¬ fresh < 1 ∧ ¬ 1073741824 < fresh ∧ (path.length : Int) < 2) ∨ (¬ fresh < 1 ∧ ¬ 1073741824 < fresh ∧ ¬ (path.length : Int) < 2 ∧ 128 < (path.length : Int)) ∨ (¬ fresh < 1 ∧ ¬ 1073741824 < fresh ∧ ¬ (path.length : Int) < 2 ∧ ¬ 128 < (path.length : Int)) := by omega
 rcases hcase with h1 | ⟨h1, h2⟩ | ⟨h1, h2, h3⟩ | ⟨h1, h2, h3, h4⟩ | ⟨h1, h2, h3, h4⟩
 ·have HE := Lib.hid (ft_arg (ids := ids) (r := r) (path := path) (fresh := fresh) fun h => by have := id_pos h.1; omega)
  go_wp2
  go_ret
  exact ⟨by rw [HE.out]; rfl, HQX.out.1⟩
 ·have HE := Lib.hid (ft_arg (ids := ids) (r := r) (path := path) (fresh := fresh) fun h => by have := id_pos h.1; omega)
  go_wp2
  go_ret
  exact ⟨by rw [HE.out]; rfl, HQX.out.1⟩
 ·have HE := Lib.hid (ft_arg (ids := ids) (r := r) (path := path) (fresh := fresh) fun h => by omega)
  have h3' : path.length < 2 := by omega
  go_wp2
  go_ret
  exact ⟨by rw [HE.out]; rfl, HQX.out.1⟩
 ·have HE := Lib.hid (ft_arg (ids := ids) (r := r) (path := path) (fresh := fresh) fun h => by omega)
  have h3' : ¬ path.length < 2 := by omega
  have h4' : 128 < path.length := by omega
  go_wp2
  go_ret
  exact ⟨by rw [HE.out]; rfl, HQX.out.1⟩
 ·have HI : Hid (idB fresh = true ∧ 2 ≤ path.length ∧ path.length ≤ 128) := ⟨by unfold idB; rw [Bool.and_eq_true, decide_eq_true_iff, decide_eq_true_iff]; omega, by omega, by omega⟩
  have h3' : ¬ path.length < 2 := by omega
  have h4' : ¬ 128 < path.length := by omega
  have HS2 := Lib.hid (HSP.out (by omega) (by omega))
  by_cases hm : fresh ∈ ids
  ·have HE := Lib.hid (ft_there (r := r) HI.out hm)
   have HF := Lib.hid (fun K W h hg hlt => HHF.out true (by rw [← HM.out]; exact ⟨fun _ => hm, fun _ => rfl⟩) g7 K W h hg hlt)
   clear hm
   go_wp2_with (go_at_call 51; go_must (refine (HF.out _ _ HQX.out c2 HZ.out).mono ?_; rintro e' W3 ⟨rfl, hB⟩; have HQ3 := Lib.hid (HQX.out.on hB); clear hB))
   go_ret
   exact ⟨by rw [HE.out]; rfl, HQ3.out.1⟩
  ·have HF := Lib.hid (fun K W h hg hlt => HHF.out false (by rw [← HM.out]; exact ⟨fun h => Bool.noConfusion h, fun h => absurd h hm⟩) g7 K W h hg hlt)
   have HNM := Lib.hid hm
   clear hm
   cases hg : gdL path
   ·have HE := Lib.hid (ft_range (r := r) HI.out HNM.out hg)
    rw [hg] at HGD
    clear hg
    go_wp2_with (first
     |(go_at_call 51; go_must (refine (HF.out _ _ HQX.out c2 HZ.out).mono ?_; rintro e' W3 ⟨rfl, hB⟩; have HQ3 := Lib.hid (HQX.out.on hB); clear hB))
     |(go_at_call 53; go_must (refine (HGD.out _ _ HQ3.out).mono ?_; rintro e' W4 ⟨rfl, hB⟩; have HQ4 := Lib.hid (HQ3.out.on hB); clear hB)))
    go_ret
    exact ⟨by rw [HE.out]; rfl, HQ4.out.1⟩
   ·have HGP := Lib.hid hg
    rw [hg] at HGD
    clear hg
    by_cases hs : pF path ≠ pL path ∧ sdV r (pF path) = 0 ∧ sdV r (pL path) = 0
    ·have HE := Lib.hid (ft_ok HI.out HNM.out HGP.out hs)
     rw [decide_eq_true hs] at HS2
     clear hs
     go_wp2_with (first
      |(go_at_call 51; go_must (refine (HF.out _ _ HQX.out c2 HZ.out).mono ?_; rintro e' W3 ⟨rfl, hB⟩; have HQ3 := Lib.hid (HQX.out.on hB); clear hB))
      |(go_at_call 53; go_must (refine (HGD.out _ _ HQ3.out).mono ?_; rintro e' W4 ⟨rfl, hB⟩; have HQ4 := Lib.hid (HQ3.out.on hB); clear hB))
      |(go_at_call 54; go_must (refine (HS2.out _ _ HQ4.out).mono ?_; rintro e' W5 ⟨rfl, hB⟩; have HQ5 := Lib.hid (HQ4.out.on hB); clear hB)))
     go_ret
     exact ⟨by rw [HE.out]; rfl, HQ5.out.1⟩
    ·have HE := Lib.hid (ft_side HI.out HNM.out HGP.out hs)
     rw [decide_eq_false hs] at HS2
     clear hs
     go_wp2_with (first
      |(go_at_call 51; go_must (refine (HF.out _ _ HQX.out c2 HZ.out).mono ?_; rintro e' W3 ⟨rfl, hB⟩; have HQ3 := Lib.hid (HQX.out.on hB); clear hB))
      |(go_at_call 53; go_must (refine (HGD.out _ _ HQ3.out).mono ?_; rintro e' W4 ⟨rfl, hB⟩; have HQ4 := Lib.hid (HQ3.out.on hB); clear hB))
      |(go_at_call 54; go_must (refine (HS2.out _ _ HQ4.out).mono ?_; rintro e' W5 ⟨rfl, hB⟩; have HQ5 := Lib.hid (HQ4.out.on hB); clear hB)))
     go_ret
     exact ⟨by rw [HE.out]; rfl, HQ5.out.1⟩
end Go.Proofs.YtaedlfiafnbceaaGreat

namespace Go.Proofs.YtaedlfiafnbceaaGreat
open Go.RowKit

def ringT (r : List (Int × Int)) : Bool := decide (3 ≤ r.length) && decide (r.length ≤ 128) && gdL r && decide (0 < area r) && ((List.range r.length).all fun j => (List.range j).all fun i => decide (nx r i ≠ nx r j) && decide (meetN (nx r i) (nx r (i + 1)) (nx r j) (nx r (j + 1)) = if nxB r.length i j then 1 else 0)) && ((List.range r.length).all fun i => !(lessB (nx r i) (nx r 0)))
theorem ringT_norm {r : List (Int × Int)} (h : ringT r = true) : NormP r := by
 unfold ringT at h
 simp only [Bool.and_eq_true, decide_eq_true_eq, List.all_eq_true, List.mem_range, Bool.not_eq_true'] at h
 obtain ⟨⟨⟨⟨⟨h1, h2⟩, h3⟩, h4⟩, h5⟩, h6⟩ := h
 have ha : arE r = 0 := arE_zero.2 ⟨h2, h3⟩
 have hs : Sound r := sound_iff.2 ⟨h1, h4, fun i j hij hj => (apart_test h1 hij hj).2 (h5 j hj i hij)⟩
 exact normP_iff.2 ⟨chE_sound ha hs, h6⟩
def pairT (a b : (Int × Int) × (Int × Int)) : Bool := let m := meetN a.1 a.2 b.1 b.2
 decide (m ≠ 2) && (decide (m ≠ 1) || decide (a.1 = b.1) || decide (a.1 = b.2) || decide (a.2 = b.1) || decide (a.2 = b.2)) && (decide (m ≠ 3) || decide (a = bk b))
theorem pairT_pair {a b : (Int × Int) × (Int × Int)} (h : pairT a b = true) : meet a.1 a.2 b.1 b.2 ≠ 2 ∧ (meet a.1 a.2 b.1 b.2 = 1 → a.1 = b.1 ∨ a.1 = b.2 ∨ a.2 = b.1 ∨ a.2 = b.2) ∧ (meet a.1 a.2 b.1 b.2 = 3 → a = bk b) := by
 unfold pairT at h
 rw [meetN_eq] at h
 simp only [Bool.and_eq_true, Bool.or_eq_true, decide_eq_true_eq] at h
 obtain ⟨⟨h1, h2⟩, h3⟩ := h
 refine ⟨h1, fun e => ?_, fun e => ?_⟩
 ·rcases h2 with (((h | h) | h) | h) | h
  ·exact absurd e h
  ·exact .inl h
  ·exact .inr (.inl h)
  ·exact .inr (.inr (.inl h))
  ·exact .inr (.inr (.inr h))
 ·rcases h3 with h | h
  ·exact absurd e h
  ·exact h
def fitT (o : List (Int × Int)) (es : List ((Int × Int) × (Int × Int))) : Bool :=
 ((List.range es.length).all fun j => (List.range j).all fun i => decide (es.getD i ((0, 0), (0, 0)) ≠ es.getD j ((0, 0), (0, 0))) && pairT (es.getD i ((0, 0), (0, 0))) (es.getD j ((0, 0), (0, 0)))) && ((edg o).all fun e => decide (e ∈ es)) && (es.all fun e => decide (e ∈ edg o) != decide (bk e ∈ es))
theorem fitT_fit {o : List (Int × Int)} {L : List (List (Int × Int))} (ho : Sound o) (hs : ∀ r ∈ L, Sound r) (h : fitT o (edgs L) = true) : Fit o L := by
 unfold fitT at h
 simp only [Bool.and_eq_true, List.all_eq_true, List.mem_range, decide_eq_true_eq, bne_iff_ne, ne_eq] at h
 obtain ⟨⟨h1, h2⟩, h3⟩ := h
 have hg : ∀ i (hi : i < (edgs L).length), (edgs L).getD i ((0, 0), (0, 0)) = (edgs L)[i] := fun i hi => by simp [List.getD_eq_getElem?_getD, List.getElem?_eq_getElem hi]
 have hp : ∀ i j (hij : i < j) (hj : j < (edgs L).length), (edgs L)[i] ≠ (edgs L)[j] ∧ pairT (edgs L)[i] (edgs L)[j] = true := fun i j hij hj => by
  have := h1 j hj i hij
  rw [hg i (by omega), hg j hj] at this
  exact this
 refine fit_of ho hs (fun i hi => ⟨fun j hj => (hp j i hj hi).1, ?_⟩) (fun i j hij hj => pairT_pair (hp i j hij hj).2) h2
 have h4 := h3 _ (List.getElem_mem hi)
 constructor
 ·intro h5 h6
  exact h4 (by rw [decide_eq_true h5, decide_eq_true h6])
 ·intro h5
  by_cases h6 : (edgs L)[i] ∈ edg o
  ·exact h6
  ·exact absurd (by rw [decide_eq_false h6, decide_eq_false h5]) h4
def planT (o : List (Int × Int)) (ps : List Par) : Bool := ringT o && (ps.all fun x => ringT x.ring && idB x.id) && decide (ps.Pairwise fun a b => a.id < b.id) && decide (1 ≤ ps.length ∧ ps.length ≤ 64) && decide (o.length + sumL (fun x => (x.ring.length : Int)) ps ≤ 1024) && decide (sumL (fun x => area x.ring) ps = area o) && fitT o (edgs (ringsQ ps))
theorem planT_plan {o : List (Int × Int)} {ps : List Par} (h : planT o ps = true) (hown : ∀ x ∈ ps, OwnOk x.own) : PlanQ o ps := by
 unfold planT at h
 simp only [Bool.and_eq_true, List.all_eq_true, decide_eq_true_eq] at h
 obtain ⟨⟨⟨⟨⟨⟨h1, h2⟩, h3⟩, h4⟩, h5⟩, h6⟩, h7⟩ := h
 exact ⟨⟨h3, fun x hx => ⟨(h2 x hx).2, hown x hx⟩, h4.1, h4.2, h5⟩, ringT_norm h1, fun x hx => ringT_norm (h2 x hx).1, h6, fitT_fit (norm_sound (ringT_norm h1)) (fun r hr => by
  obtain ⟨x, hx, rfl⟩ := List.mem_map.1 hr
  exact norm_sound (ringT_norm (h2 x hx).1)) h7⟩
def noOwn : ByteArray := ⟨#[]⟩
theorem noOwn_ok : OwnOk noOwn := ⟨fun j hj => absurd hj (by unfold noOwn; simp [ByteArray.size]), by decide⟩
end Go.Proofs.YtaedlfiafnbceaaGreat

namespace Go.Proofs.YtaedlfiafnbceaaGreat
open Go.RowKit

def rgQ (ps : List Par) (id : Int) : List (Int × Int) := ((firstQ ps id).map Par.ring).getD []
noncomputable def sptL (ps : List Par) (id : Int) (path : List (Int × Int)) (fresh : Int) : List Par := srtQ (cutQ nmL ps id path fresh)
noncomputable def sptE (o : List (Int × Int)) (ps : List Par) (id : Int) (path : List (Int × Int)) (fresh : Int) : Int :=
 if chkQ o ps = false then 2 else if id ∉ idsQ ps then 5 else if ftE (idsQ ps) (rgQ ps id) path fresh ≠ 0 then ftE (idsQ ps) (rgQ ps id) path fresh else if chkQ (putE o path) (sptL ps id path fresh) = true then 0 else 8
section
variable {o : List (Int × Int)} {ps : List Par} {id : Int} {path : List (Int × Int)} {fresh : Int}
theorem sp_form (h : chkQ o ps = false) : sptE o ps id path fresh = 2 := by unfold sptE; rw [if_pos h]
theorem sp_none (h : chkQ o ps = true) (h2 : id ∉ idsQ ps) : sptE o ps id path fresh = 5 := by unfold sptE; rw [if_neg (by rw [h]; decide), if_pos h2]
theorem sp_fault (h : chkQ o ps = true) (h2 : id ∈ idsQ ps) (h3 : ftE (idsQ ps) (rgQ ps id) path fresh ≠ 0) : sptE o ps id path fresh = ftE (idsQ ps) (rgQ ps id) path fresh := by unfold sptE; rw [if_neg (by rw [h]; decide), if_neg (fun hh => hh h2), if_pos h3]
theorem sp_cross (h : chkQ o ps = true) (h2 : id ∈ idsQ ps) (h3 : ftE (idsQ ps) (rgQ ps id) path fresh = 0) (h4 : chkQ (putE o path) (sptL ps id path fresh) = false) : sptE o ps id path fresh = 8 := by unfold sptE; rw [if_neg (by rw [h]; decide), if_neg (fun hh => hh h2), if_neg (fun hh => hh h3), if_neg (by rw [h4]; decide)]
theorem sp_ok (h : chkQ o ps = true) (h2 : id ∈ idsQ ps) (h3 : ftE (idsQ ps) (rgQ ps id) path fresh = 0) (h4 : chkQ (putE o path) (sptL ps id path fresh) = true) : sptE o ps id path fresh = 0 := by unfold sptE; rw [if_neg (by rw [h]; decide), if_neg (fun hh => hh h2), if_neg (fun hh => hh h3), if_pos h4]
theorem sp_zero (h : sptE o ps id path fresh = 0) : chkQ o ps = true ∧ id ∈ idsQ ps ∧ ftE (idsQ ps) (rgQ ps id) path fresh = 0 ∧ chkQ (putE o path) (sptL ps id path fresh) = true := by
 unfold sptE at h
 split at h
 ·cases h
 ·rename_i h1
  split at h
  ·cases h
  ·rename_i h2
   split at h
   ·rename_i h3; exact absurd h h3
   ·rename_i h3
    split at h
    ·rename_i h4; exact ⟨(Bool.not_eq_false _).mp h1, Classical.not_not.1 h2, Classical.not_not.1 h3, h4⟩
    ·cases h
theorem PlanQ.ring_of (h : PlanQ o ps) {x : Par} (hx : x ∈ ps) (hid : x.id = id) : rgQ ps id = x.ring := by
 obtain ⟨y, hy⟩ := firstQ_some (ps := ps) (id := id) (List.mem_map.2 ⟨x, hx, hid⟩)
 obtain ⟨h1, h2⟩ := firstQ_id hy
 unfold rgQ
 rw [hy, h.one h2 hx (h1.trans hid.symm)]; rfl
theorem PlanQ.ringP (h : PlanQ o ps) {x : Par} (hx : x ∈ ps) : Sound x.ring ∧ gdL x.ring = true ∧ x.ring.length ≤ 128 := by
 obtain ⟨h1, h2, h3⟩ := normP_small (h.each x hx)
 exact ⟨norm_sound (h.each x hx), gdL_iff.2 h3, h2⟩
theorem PlanQ.outP (h : PlanQ o ps) : Sound o ∧ gdL o = true ∧ o.length ≤ 128 := by
 obtain ⟨h1, h2, h3⟩ := normP_small h.out
 exact ⟨norm_sound h.out, gdL_iff.2 h3, h2⟩
theorem on_of_sdV {r : List (Int × Int)} {p : Int × Int} (hn : NormP r) (hp : Gd p) (h : sdV r p = 0) : onRim r p := by
 unfold sdV sdE at h
 have h1 : ¬ chE r ≠ 0 := fun hh => hh hn.1
 rw [if_neg h1, gd_iff.2 hp] at h
 simp only [if_true] at h
 unfold sideW at h
 split at h
 ·assumption
 ·split at h <;> cases h
theorem PlanQ.onBoth (h : PlanQ o ps) {x : Par} (hx : x ∈ ps) (hid : x.id = id) (hf : ftE (idsQ ps) (rgQ ps id) path fresh = 0) : OnBoth x.ring path := by
 obtain ⟨h1, h2, h3, h4, h5, h6⟩ := ft_zero hf
 rw [h.ring_of hx hid] at h5 h6
 have hn := h.each x hx
 exact ⟨on_of_sdV hn (nx_gd h3 (by omega) 0) h5, on_of_sdV hn (nx_gd h3 (by omega) _) h6⟩
end
theorem nmL_le (r : List (Int × Int)) : (nmL r).length ≤ r.length := by
 by_cases h : chE r = 0
 ·rw [nmL_len h]; exact Nat.le_refl _
 ·unfold nmL; rw [if_neg h]; simp
theorem closedL_len (path r : List (Int × Int)) : (closedL path r).length ≤ path.length + r.length := by
 unfold closedL
 have := arc_len r (pL path) (pF path)
 rw [List.length_append]; omega
theorem cutQ_mem {ps : List Par} {id : Int} {path : List (Int × Int)} {fresh : Int} {y : Par} (h : y ∈ cutQ nmL ps id path fresh) (hp : path.length ≤ 128) (hr : ∀ x ∈ ps, x.ring.length ≤ 128) : y.ring.length ≤ 300 ∧ ∃ x ∈ ps, y.own = x.own := by
 unfold cutQ at h
 obtain ⟨x, hx, hy⟩ := List.mem_flatMap.1 h
 have h1 := hr x hx
 have h2 := putE_len x.ring path
 have h3 := closedL_len path (putE x.ring path)
 have h4 := closedL_len path.reverse (putE x.ring path)
 have h5 := nmL_le (closedL path (putE x.ring path))
 have h6 := nmL_le (closedL path.reverse (putE x.ring path))
 rw [List.length_reverse] at h4
 unfold cutPar at hy
 split at hy
 ·simp only [List.mem_cons, List.not_mem_nil, or_false] at hy
  rcases hy with rfl | rfl
  ·exact ⟨by show (nmL _).length ≤ 300; omega, x, hx, rfl⟩
  ·exact ⟨by show (nmL _).length ≤ 300; omega, x, hx, rfl⟩
 ·simp only [List.mem_cons, List.not_mem_nil, or_false] at hy
  subst hy
  exact ⟨by show (putE _ _).length ≤ 300; omega, x, hx, rfl⟩
theorem planAt_of {w W : World} {o : List (Int × Int)} {A1 Ap1 : Option Addr} {c1 cp1 : Nat} {l' : List PV} (h1 : Row w (.slice A1 o.length c1) o W) (h2 : RowI w 37 3 encV (.slice Ap1 l'.length cp1) l' W) (h3 : OwnRs w l' W) (ho : o.length ≤ 1000) (hl : ∀ x ∈ l', x.par.ring.length ≤ 1000) : PlanAt W o A1 c1 l' Ap1 cp1 := by
 obtain ⟨i1, -, -⟩ := h2.full
 obtain ⟨j1, j2, j3⟩ := h1.whole
 have hr := fun x hx => (show Row w (.slice x.A x.par.ring.length x.cap) x.par.ring W from ⟨h1.1, h3 x hx⟩).whole
 exact ⟨⟨i1, fun x hx => ⟨(hr x hx).1, (hr x hx).2.1, by have := hl x hx; omega⟩⟩, j1, j2, by omega, j3, fun x hx => (hr x hx).2.2⟩
theorem sorted_one {q m : List Par} (h : q.Perm m) (hle : q.Pairwise fun a b => a.id ≤ b.id) (hnd : (m.map Par.id).Nodup) : q = srtQ m := by
 refine srtQ_of h ?_
 have hq : (q.map Par.id).Nodup := (h.map Par.id).nodup_iff.2 hnd
 have h2 : q.Pairwise fun a b => a.id ≠ b.id := List.pairwise_map.1 hq
 exact hle.imp₂ (fun a b h1 h2 => by omega) h2
theorem cutQ_ids (f : List (Int × Int) → List (Int × Int)) {id : Int} {path : List (Int × Int)} {fresh : Int} : ∀ {ps : List Par}, (idsQ ps).Nodup → fresh ∉ idsQ ps → ((cutQ f ps id path fresh).map Par.id).Nodup ∧ ∀ n ∈ (cutQ f ps id path fresh).map Par.id, (n ∈ idsQ ps) ∨ (n = fresh ∧ id ∈ idsQ ps)
 |[], _, _ => ⟨List.nodup_nil, fun n hn => by simp [cutQ] at hn⟩
 |x :: ps, hn, hf => by
  unfold idsQ at hn hf
  rw [List.map_cons] at hn hf
  obtain ⟨n1, n2⟩ := List.nodup_cons.1 hn
  obtain ⟨i1, i2⟩ := cutQ_ids f (id := id) (path := path) (ps := ps) n2 (fun h => hf (List.mem_cons_of_mem _ h))
  have e : cutQ f (x :: ps) id path fresh = cutPar f id path fresh x ++ cutQ f ps id path fresh := by unfold cutQ; rw [List.flatMap_cons]
  have hx : fresh ≠ x.id := fun h => hf (by rw [h]; exact List.mem_cons_self)
  have hfr : fresh ∉ idsQ ps := fun h => hf (List.mem_cons_of_mem _ h)
  rw [e, List.map_append]
  unfold cutPar
  by_cases hid : x.id = id
  ·rw [if_pos hid]
   have hni : id ∉ idsQ ps := by rw [← hid]; exact n1
   refine ⟨?_, fun n hn => ?_⟩
   ·simp only [List.map_cons, List.map_nil, List.cons_append, List.nil_append]
    refine List.nodup_cons.2 ⟨fun h => ?_, List.nodup_cons.2 ⟨fun h => ?_, i1⟩⟩
    ·rcases List.mem_cons.1 h with h | h
     ·exact hx h
     ·rcases i2 _ h with h | ⟨-, h⟩
      ·exact hfr h
      ·exact hni h
    ·rcases i2 _ h with h | ⟨h, -⟩
     ·exact n1 h
     ·exact hx h.symm
   ·simp only [List.map_cons, List.map_nil, List.cons_append, List.nil_append, List.mem_cons] at hn
    rcases hn with rfl | rfl | hn
    ·exact .inr ⟨rfl, by unfold idsQ; rw [List.map_cons, hid]; exact List.mem_cons_self⟩
    ·exact .inl (by unfold idsQ; rw [List.map_cons]; exact List.mem_cons_self)
    ·rcases i2 _ hn with h | ⟨h, h'⟩
     ·exact .inl (by unfold idsQ; rw [List.map_cons]; exact List.mem_cons_of_mem _ h)
     ·exact absurd h' hni
  ·rw [if_neg hid]
   refine ⟨?_, fun n hn => ?_⟩
   ·simp only [List.map_cons, List.map_nil, List.cons_append, List.nil_append]
    refine List.nodup_cons.2 ⟨fun h => ?_, i1⟩
    rcases i2 _ h with h | ⟨h, -⟩
    ·exact n1 h
    ·exact hx h.symm
   ·simp only [List.map_cons, List.map_nil, List.cons_append, List.nil_append, List.mem_cons] at hn
    rcases hn with rfl | hn
    ·exact .inl (by unfold idsQ; rw [List.map_cons]; exact List.mem_cons_self)
    ·rcases i2 _ hn with h | ⟨h, h'⟩
     ·exact .inl (by unfold idsQ; rw [List.map_cons]; exact List.mem_cons_of_mem _ h)
     ·exact .inr ⟨h, by unfold idsQ; rw [List.map_cons]; exact List.mem_cons_of_mem _ h'⟩
theorem PlanQ.ids {o : List (Int × Int)} {ps : List Par} (h : PlanQ o ps) : (idsQ ps).Nodup := by
 unfold idsQ
 exact List.pairwise_map.2 (h.fine.1.imp fun h => by omega)

def SplitAt (w w' : World) (o : List (Int × Int)) (ps : List Par) (id : Int) (path : List (Int × Int)) (fresh : Int) (e : Ending) : Prop :=
 Below w.heap.size w w' ∧ ((sptE o ps id path fresh ≠ 0 ∧ e = .returned (.tuple #[.agg #[.slice none 0 0, .slice none 0 0], .int .i64 (sptE o ps id path fresh)])) ∨
  (sptE o ps id path fresh = 0 ∧ ∃ A1 c1 Ap1 cp1 l', e = .returned (.tuple #[.agg #[.slice A1 (putE o path).length c1, .slice Ap1 l'.length cp1], .int .i64 0]) ∧ l'.map PV.par = sptL ps id path fresh ∧ Row w (.slice A1 (putE o path).length c1) (putE o path) w' ∧ RowI w 37 3 encV (.slice Ap1 l'.length cp1) l' w' ∧ OwnRs w l' w'))
set_option maxRecDepth 100000 in
set_option maxHeartbeats 2000000 in
theorem Split_any (o : List (Int × Int)) (Ao : Option Addr) (co : Nat) (l : List PV) (Ap : Option Addr) (cp : Nat) (id : Int) (path : List (Int × Int)) (A : Option Addr) (ca : Nat) (fresh : Int) (hl : l.length ≤ 1000000) (ho : o.length ≤ 8796093022208) (hown : ∀ x ∈ l, x.par.own.size ≤ maxLen) (hn : path.length * 16 ≤ 140737488355328) (hnA : NilOk A ca) (w : World) (h : PlanAt w o Ao co l Ap cp) (hq : Pts w w.heap.size A path) :
  Calls Tryz.prog 13 #[.agg #[.slice Ao o.length co, .slice Ap l.length cp], .int .i64 id, .slice A path.length ca, .int .i64 fresh] w fun e w' => SplitAt w w' o (l.map PV.par) id path fresh e := by
 have HFI := Lib.hid (fun K W (hh : Hold w K W) => Find_any o Ao co l Ap cp id hl ho hown W (h.on hh.1))
 have HFT := Lib.hid (fun r (B : Option Addr) cb (hrn : r.length ≤ maxLen) K W (hh : Hold w K W) (hr : Pts W W.heap.size B r) => fault_any o Ao co l Ap cp r path B A cb ca fresh hl hn hrn W (h.prs.on hh.1) hr (hq.on hh.1))
 have hids : (l.map fun x => x.par.id) = idsQ (l.map PV.par) := by unfold idsQ; rw [List.map_map]; rfl
 rw [hids] at HFT
 have HDV := Lib.hid (fun (hP : PlanQ o (l.map PV.par)) (hf : ftE (idsQ (l.map PV.par)) (rgQ (l.map PV.par) id) path fresh = 0) K W (hh : Hold w K W) => by
  have hz := ft_zero hf
  have h64 := hP.fine.2.2.2.1
  have h1 := hP.fine.2.2.1
  rw [List.length_map] at h64 h1
  exact divided_any o Ao co l Ap cp id path A ca fresh h64 h1 hP.outP.1 hP.outP.2.1 hP.outP.2.2 (fun x hx => hP.ringP (List.mem_map_of_mem hx)) hz.1.2.1 hz.1.2.2 hz.2.2.1 hz.2.2.2.1 (fun x hx hi => hP.onBoth (List.mem_map_of_mem hx) hi hf) hnA W (h.on hh.1) (hq.on hh.1))
 have HCB := Lib.hid (chkQ_of o l)
 have HQ := ((Hold.refl w).new #[.slice Ao o.length co, .slice Ap l.length cp] 26).new' #[.slice none 0 0, .slice none 0 0] 26 (n := w.heap.size + 1) (by simp)
 have HOW := Lib.hid hown
 clear h hq hl ho hown hn hnA hids
 go_enter Tryz.func13, Tryz.ntmps13
 go_upto_region 1 with (fail)
 generalize (World.alloc _ _) = W1 at HQ ⊢
 generalize w.heap.size + 1 = g8 at HQ ⊢
 obtain ⟨g4, hg4⟩ : ∃ g, w.heap.size = g := ⟨_, rfl⟩
 rw [hg4] at HQ ⊢
 have HG4 := Lib.hid hg4
 clear hg4
 obtain ⟨c0, c1⟩ := HQ.pt (.tail _ (.head _))
 have HQ1 := Lib.hid HQ
 clear HQ
 go_wp2_with fail
 go_at_call 35
 refine (HFI.out _ _ HQ1.out).mono ?_
 rintro e' W2 ⟨hB, hf⟩
 have hq2 := HQ1.out.on hB
 clear HFI hB c0 c1
 rcases hf with ⟨hcb, rfl⟩ | ⟨hcb, hno, rfl⟩ | ⟨hcb, x, hx, hid, B, cb, rfl, hpx, hnx, hcx⟩
 ·have HE : Hid (sptE o (l.map PV.par) id path fresh = 2) := sp_form (by rw [← HCB.out]; exact hcb)
  have hq3 := hq2.new #[.int .i64 0, .slice none 0 0, .string ⟨#[]⟩] 37
  obtain ⟨c2, c3⟩ := hq3.pt (.tail _ (.head _))
  obtain ⟨c4, c5⟩ := hq3.fz (.tail _ (.head _))
  have HQ3 := Lib.hid hq3
  clear hq2 hq3 hcb
  go_wp2
  have HE2 := HQ3.out.swap2 (.slice none 0 0) (.slice none 0 0)
  have n0 := HE2.cell (.tail _ (.head _)) 0
  have n1 := HE2.cell (.tail _ (.head _)) 1
  simp only [List.getElem?_toArray, List.getElem?_cons_zero, List.getElem?_cons_succ] at n0 n1
  refine bodyPost_ret (v := .tuple #[.agg #[.slice none 0 0, .slice none 0 0], .int .i64 2]) ?_ rfl ⟨HE2.1, .inl ⟨by rw [HE.out]; decide, by rw [HE.out]⟩⟩
  simp [results, Tryz.results13, go_sem, n0, n1]
 ·have HE : Hid (sptE o (l.map PV.par) id path fresh = 5) := sp_none (by rw [← HCB.out]; exact hcb) (fun hh => by
   obtain ⟨y, hy, e⟩ := List.mem_map.1 hh
   obtain ⟨z, hz, rfl⟩ := List.mem_map.1 hy
   exact hno z hz e)
  have hq3 := hq2.new #[.int .i64 0, .slice none 0 0, .string ⟨#[]⟩] 37
  obtain ⟨c2, c3⟩ := hq3.pt (.tail _ (.head _))
  obtain ⟨c4, c5⟩ := hq3.fz (.tail _ (.head _))
  have HQ3 := Lib.hid hq3
  clear hq2 hq3 hcb hno
  go_wp2
  have HE2 := HQ3.out.swap2 (.slice none 0 0) (.slice none 0 0)
  have n0 := HE2.cell (.tail _ (.head _)) 0
  have n1 := HE2.cell (.tail _ (.head _)) 1
  simp only [List.getElem?_toArray, List.getElem?_cons_zero, List.getElem?_cons_succ] at n0 n1
  refine bodyPost_ret (v := .tuple #[.agg #[.slice none 0 0, .slice none 0 0], .int .i64 5]) ?_ rfl ⟨HE2.1, .inl ⟨by rw [HE.out]; decide, by rw [HE.out]⟩⟩
  simp [results, Tryz.results13, go_sem, n0, n1]
 ·have hP : PlanQ o (l.map PV.par) := chkB_plan.1 hcb
  have hmx : x.par ∈ l.map PV.par := List.mem_map_of_mem hx
  have hrg : rgQ (l.map PV.par) id = x.par.ring := hP.ring_of hmx hid
  have hck : chkQ o (l.map PV.par) = true := by rw [← HCB.out]; exact hcb
  have hmi : id ∈ idsQ (l.map PV.par) := List.mem_map.2 ⟨x.par, hmx, hid⟩
  have HF := Lib.hid (HFT.out x.par.ring B cb (by have := (hP.ringP hmx).2.2; unfold maxLen; omega))
  have HDX := Lib.hid (HDV.out hP)
  have HOB : Hid (path.length ≤ 128 → ∀ l' : List PV, l'.map PV.par = sptL (l.map PV.par) id path fresh → (l'.length ≤ 1000000 ∧ ∀ y ∈ l', y.par.ring.length ≤ 300 ∧ y.par.own.size ≤ maxLen) ∧ (putE o path).length ≤ 300) := fun hp l' hm => by
   have h3 := (hP.outP).2.2
   have h4 := putE_len o path
   have h5 := (cutQ_len nmL id path fresh (l.map PV.par)).2
   have h6 := hP.fine.2.2.2.1
   have h7 := congrArg List.length hm
   unfold sptL at h7
   rw [(srtQ_perm _).length_eq, List.length_map] at h7
   refine ⟨⟨by omega, fun y hy => ?_⟩, by omega⟩
   have h8 : y.par ∈ sptL (l.map PV.par) id path fresh := by rw [← hm]; exact List.mem_map_of_mem hy
   obtain ⟨g1, z, hz, g2⟩ := cutQ_mem ((srtQ_perm _).subset h8) hp (fun z hz => (hP.ringP hz).2.2)
   obtain ⟨u, hu, rfl⟩ := List.mem_map.1 hz
   exact ⟨g1, by rw [g2]; exact HOW.out u hu⟩
  have HSO : Hid (ftE (idsQ (l.map PV.par)) (rgQ (l.map PV.par) id) path fresh = 0 → ∀ l' : List PV, (l'.map PV.par).Perm (cutQ nmL (l.map PV.par) id path fresh) → (l'.map PV.par).Pairwise (fun a b => a.id ≤ b.id) → l'.map PV.par = sptL (l.map PV.par) id path fresh) := fun hf l' h1 h2 => sorted_one h1 h2 (cutQ_ids nmL hP.ids (ft_zero hf).2.1).1
  have hq3 := hq2.new #[.int .i64 x.par.id, .slice B x.par.ring.length cb, .string x.par.own] 37
  have hp3 := hpx.on ((Below.refl _ W2).alloc (Nat.le_refl _) (.cells #[.int .i64 x.par.id, .slice B x.par.ring.length cb, .string x.par.own] 37 (0, 0)))
  have hE1 : ∀ fe, ftE (idsQ (l.map PV.par)) (rgQ (l.map PV.par) id) path fresh = fe → fe ≠ 0 → sptE o (l.map PV.par) id path fresh = fe := fun fe h1 h2 => by rw [sp_fault hck hmi (by rw [h1]; exact h2), h1]
  have HE1 := Lib.hid hE1
  have HE2 := Lib.hid (fun hf h4 => (sp_cross hck hmi hf h4 : sptE o (l.map PV.par) id path fresh = 8))
  have HE3 := Lib.hid (fun hf h4 => (sp_ok hck hmi hf h4 : sptE o (l.map PV.par) id path fresh = 0))
  clear hE1 hq2 hcb hpx hnx hcx hid hx hP hmx hck hmi HFT HDV
  rw [hrg] at HDX HSO HE1 HE2 HE3
  clear hrg
  have HLP : Hid (ftE (idsQ (l.map PV.par)) x.par.ring path fresh = 0 → path.length ≤ 128) := fun h => (ft_zero h).1.2.2
  generalize ftE (idsQ (l.map PV.par)) x.par.ring path fresh = fe at *
  go_upto_region 4 with (fail)
  generalize (World.alloc _ _) = W3 at hq3 hp3 ⊢
  generalize W2.heap.size = g10 at hq3 ⊢
  obtain ⟨c0, c1⟩ := hq3.pt (.tail _ (.tail _ (.head _)))
  obtain ⟨k0, k1, k2⟩ := hq3.q3 (.head _)
  have HQ3 := Lib.hid hq3
  have HP3 := Lib.hid hp3
  clear hq3 hp3
  by_cases hfe : fe = 0
  ·subst hfe
   have HL := Lib.hid (HLP.out rfl)
   have HDY := Lib.hid (HDX.out rfl)
   have HSP := Lib.hid (HSO.out rfl)
   have HE2' := Lib.hid (HE2.out rfl)
   have HE3' := Lib.hid (HE3.out rfl)
   have HOL := Lib.hid (HOB.out HL.out)
   clear HE1 HE2 HE3 HSO HDX HLP HOB
   go_upto_region 7 with (go_at_call 36; go_must (refine (HF.out _ _ HQ3.out HP3.out).mono ?_; rintro e' W4 ⟨rfl, hB⟩; have hq4 := HQ3.out.on hB; clear hB))
   clear c0 c1 k0 k1 k2
   have HQ4 := Lib.hid hq4
   obtain ⟨c0, c1⟩ := hq4.pt (.tail _ (.tail _ (.head _)))
   clear hq4
   go_wp2_with fail
   go_at_call 37
   refine (HDY.out _ _ HQ4.out).mono ?_
   rintro e' W5 ⟨A1, c1', Ap1, cp1, l', rfl, hpm, hpw, h1, h2, h3⟩
   have hm := HSP.out l' hpm hpw
   obtain ⟨⟨hl1, hl2⟩, hl3⟩ := HOL.out l' hm
   have hbn : Bn w (.slice A1 (putE o path).length c1') (putE o path) (.slice Ap1 l'.length cp1) l' l' _ W5 := ⟨h1.base HQ4.out.1, h2.base HQ4.out.1, fun y hy => ((show Row W4 (.slice y.A y.par.ring.length y.cap) y.par.ring W5 from ⟨h1.1, h3 y hy⟩).base HQ4.out.1).2, HQ4.out.on h1.1, fun e he h => by
    have g1 := (h2.2.lt _ h).1
    have g2 := blk_lt (HQ4.out.2.1 e he).1
    omega⟩
   have HCK : Hid (∀ W, Below W5.heap.size W5 W → Calls Tryz.prog 38 #[.agg #[.slice A1 (putE o path).length c1', .slice Ap1 l'.length cp1]] W fun e' w' => e' = .returned (.int .i64 (ckR (putE o path) l')) ∧ Below W.heap.size W w') := fun W hb => check_any hl1 (by omega) (fun y hy => (hl2 y hy).2) ((planAt_of (h1.base HQ4.out.1) (h2.base HQ4.out.1) hbn.rs (by omega) (fun y hy => by have := (hl2 y hy).1; omega)).on hb)
   have HCQ : Hid (chkB (putE o path) l' = chkQ (putE o path) (sptL (l.map PV.par) id path fresh)) := by unfold Hid; rw [chkQ_of, hm]
   have HM := Lib.hid hm
   have HB5 := Lib.hid (hbn.new #[.slice A1 (putE o path).length c1', .slice Ap1 l'.length cp1] 26)
   have HBL := Lib.hid ((Below.refl W5.heap.size W5).alloc (Nat.le_refl _) (Obj.cells #[.slice A1 (putE o path).length c1', .slice Ap1 l'.length cp1] 26 (0, 0)))
   obtain ⟨d0, d1⟩ := HB5.out.hold.pt (.head _)
   clear hpm hpw h1 h2 h3 hm hl1 hl2 hl3 hbn c0 c1 HDY HSP HOL
   generalize hlq : sptL (l.map PV.par) id path fresh = Lq at *
   have HLQ := Lib.hid hlq
   clear hlq
   cases hcc : chkQ (putE o path) Lq
   ·have HE := Lib.hid (HE2'.out hcc)
    rw [ckR_false (HCQ.out.trans hcc)] at HCK
    clear hcc HE2' HE3'
    go_upto_region 9 with (go_at_call 38; go_must (refine (HCK.out _ HBL.out).mono ?_; rintro e' W7 ⟨rfl, hB⟩; have hb7 := HB5.out.on hB; clear hB))
    clear d0 d1
    obtain ⟨c2, c3⟩ := hb7.hold.pt (.tail _ (.tail _ (.head _)))
    obtain ⟨c4, c5⟩ := hb7.hold.fz (.tail _ (.tail _ (.head _)))
    have HB7 := Lib.hid hb7
    clear hb7
    go_wp2
    have HE2 := (Bn.put (H1 := [_, _]) (Bn.put (H1 := [_, _]) HB7.out (show (26 : Nat) ≠ 35 by decide) 0 (.slice none 0 0)) (show (26 : Nat) ≠ 35 by decide) 1 (.slice none 0 0)).hold
    have n0 := HE2.cell (.tail _ (.tail _ (.head _))) 0
    have n1 := HE2.cell (.tail _ (.tail _ (.head _))) 1
    simp only [List.setIfInBounds_toArray, List.set_cons_zero, List.set_cons_succ, List.getElem?_toArray, List.getElem?_cons_zero, List.getElem?_cons_succ] at n0 n1
    refine bodyPost_ret (v := .tuple #[.agg #[.slice none 0 0, .slice none 0 0], .int .i64 8]) ?_ rfl ⟨HE2.1, .inl ⟨by rw [HE.out]; decide, by rw [HE.out]⟩⟩
    simp [results, Tryz.results13, go_sem, n0, n1]
   ·have HE := Lib.hid (HE3'.out hcc)
    rw [ckR_true (HCQ.out.trans hcc)] at HCK
    clear hcc HE2' HE3'
    go_upto_region 10 with (go_at_call 38; go_must (refine (HCK.out _ HBL.out).mono ?_; rintro e' W7 ⟨rfl, hB⟩; have hb7 := HB5.out.on hB; clear hB))
    clear d0 d1
    obtain ⟨d0, d1⟩ := hb7.hold.pt (.head _)
    obtain ⟨c2, c3⟩ := hb7.hold.pt (.tail _ (.tail _ (.head _)))
    obtain ⟨c4, c5⟩ := hb7.hold.fz (.tail _ (.tail _ (.head _)))
    have HB7 := Lib.hid hb7
    clear hb7
    go_wp2
    have HE2 := Bn.put (H1 := [_, _]) (Bn.put (H1 := [_, _]) HB7.out (show (26 : Nat) ≠ 35 by decide) 0 (.slice A1 (putE o path).length c1')) (show (26 : Nat) ≠ 35 by decide) 1 (.slice Ap1 l'.length cp1)
    have n0 := HE2.hold.cell (.tail _ (.tail _ (.head _))) 0
    have n1 := HE2.hold.cell (.tail _ (.tail _ (.head _))) 1
    simp only [List.setIfInBounds_toArray, List.set_cons_zero, List.set_cons_succ, List.getElem?_toArray, List.getElem?_cons_zero, List.getElem?_cons_succ] at n0 n1
    refine bodyPost_ret (v := .tuple #[.agg #[.slice A1 (putE o path).length c1', .slice Ap1 l'.length cp1], .int .i64 0]) ?_ rfl ⟨HE2.hold.1, .inr ⟨HE.out, A1, c1', Ap1, cp1, l', rfl, HM.out.trans HLQ.out.symm, HE2.out, HE2.row, HE2.rs⟩⟩
    simp [results, Tryz.results13, go_sem, n0, n1]
  ·have e0 : (fe == 0) = false := by simpa using hfe
   have HE := Lib.hid (HE1.out fe rfl hfe)
   have HFE := Lib.hid hfe
   clear HE1 HE2 HE3 HSO HDX HLP HOB hfe
   go_upto_region 5 with (go_at_call 36; go_must (refine (HF.out _ _ HQ3.out HP3.out).mono ?_; rintro e' W4 ⟨rfl, hB⟩; have hq4 := HQ3.out.on hB; clear hB))
   clear c0 c1 k0 k1 k2
   obtain ⟨c2, c3⟩ := hq4.pt (.tail _ (.head _))
   obtain ⟨c4, c5⟩ := hq4.fz (.tail _ (.head _))
   have HQ4 := Lib.hid hq4
   clear hq4
   go_wp2
   have HE2 := HQ4.out.swap2 (.slice none 0 0) (.slice none 0 0)
   have n0 := HE2.cell (.tail _ (.head _)) 0
   have n1 := HE2.cell (.tail _ (.head _)) 1
   simp only [List.getElem?_toArray, List.getElem?_cons_zero, List.getElem?_cons_succ] at n0 n1
   refine bodyPost_ret (v := .tuple #[.agg #[.slice none 0 0, .slice none 0 0], .int .i64 fe]) ?_ rfl ⟨HE2.1, .inl ⟨by rw [HE.out]; exact HFE.out, by rw [HE.out]⟩⟩
   simp [results, Tryz.results13, go_sem, n0, n1]
end Go.Proofs.YtaedlfiafnbceaaGreat

namespace Go.Proofs.YtaedlfiafnbceaaGreat
open Go.RowKit

set_option maxRecDepth 100000 in
set_option maxHeartbeats 2000000 in
theorem lawSplit_any (o : List (Int × Int)) (Ao : Option Addr) (co : Nat) (l : List PV) (Ap : Option Addr) (cp : Nat) (id : Int) (path : List (Int × Int)) (A : Option Addr) (ca : Nat) (fresh : Int) (hl : l.length ≤ 1000000) (ho : o.length ≤ 8796093022208) (hown : ∀ x ∈ l, x.par.own.size ≤ maxLen) (hn : path.length * 16 ≤ 140737488355328) (hnA : NilOk A ca) (w : World) (h : PlanAt w o Ao co l Ap cp) (hq : Pts w w.heap.size A path) :
  Calls Tryz.prog 7 #[.agg #[.slice Ao o.length co, .slice Ap l.length cp], .int .i64 id, .slice A path.length ca, .int .i64 fresh] w fun e w' => SplitAt w w' o (l.map PV.par) id path fresh e := by
 have HOW := Lib.hid (fun K W (hh : Hold w K W) => Own_any o Ao co l Ap cp hl W (h.on hh.1))
 have HSP := Lib.hid (fun A1 c1 l' Ap1 cp1 (hm : l'.map PV.par = l.map PV.par) A2 c2 (hn2 : NilOk A2 c2) W (hp : PlanAt W o A1 c1 l' Ap1 cp1) (hq : Pts W W.heap.size A2 path) => by
  have hx := Split_any o A1 c1 l' Ap1 cp1 id path A2 c2 fresh (by rw [lenQ_par hm]; exact hl) ho (fun x hx => by
   obtain ⟨y, hy, e⟩ := memQ_par hm.symm hx
   rw [← e]; exact hown y hy) hn hn2 W hp hq
  rw [hm] at hx
  exact hx)
 have HPA := Lib.hid (fun K W (hh : Hold w K W) => hq.on hh.1)
 have HLN := Lib.hid hn
 have HNA := Lib.hid hnA
 have HQ := ((Hold.refl w).new #[.slice Ao o.length co, .slice Ap l.length cp] 26).new' #[.slice none 0 0, .slice none 0 0] 26 (n := w.heap.size + 1) (by simp)
 clear h hq hl ho hown hn hnA
 go_enter Tryz.func7, Tryz.ntmps7
 go_upto_region 1 with (fail)
 generalize (World.alloc _ _) = W1 at HQ ⊢
 generalize w.heap.size + 1 = g8 at HQ ⊢
 obtain ⟨g4, hg4⟩ : ∃ g, w.heap.size = g := ⟨_, rfl⟩
 rw [hg4] at HQ ⊢
 have HG4 := Lib.hid hg4
 clear hg4
 obtain ⟨c0, c1⟩ := HQ.pt (.tail _ (.head _))
 have HQ1 := Lib.hid HQ
 clear HQ
 go_wp2_with fail
 go_at_call 14
 refine (HOW.out _ _ HQ1.out).mono ?_
 rintro e' W2 ⟨hB, A1, c1', l', Ap1, cp1, rfl, hm, hp⟩
 have hq2 := HQ1.out.on hB
 have HQ2 := Lib.hid hq2
 have HP2 := Lib.hid hp
 have HM2 := Lib.hid hm
 have HLE : Hid (l'.length = l.length) := lenQ_par hm
 have HMD := Lib.hid (Row.made W2 35 rfl)
 clear hB hq2 hp hm c0 c1 HOW
 go_wp2_with (at_builtin; go_must (refine append_pts _ Tryz.underlying23 HMD.out path A ca (HPA.out _ _ (HQ2.out.on HMD.out.1)) HNA.out (by have := HLN.out; simpa using this) rfl _ _ rfl rfl rfl ?_; rintro v3 W3 HR3; rw [List.nil_append] at HR3; have hq3 := HQ2.out.on HR3.1; obtain ⟨A3, c3, rfl, hp3, hn3, -⟩ := HR3.full; have hpl3 := HP2.out.on HR3.1; have HQ3 := Lib.hid hq3; have HP3 := Lib.hid hp3; have HN3 := Lib.hid hn3; have HPL3 := Lib.hid hpl3; clear hq3 hp3 hn3 hpl3 HR3))
 go_at_call 13
 have hx := HSP.out _ _ _ _ _ HM2.out _ _ HN3.out _ HPL3.out HP3.out
 rw [HLE.out] at hx
 refine hx.mono ?_
 clear hx
 rintro e' W4 ⟨hB4, hbad | hgood⟩
 ·obtain ⟨hne, rfl⟩ := hbad
  have hq4 := HQ3.out.on hB4
  have HNE := Lib.hid hne
  obtain ⟨c2, c3⟩ := hq4.pt (.head _)
  obtain ⟨c4, c5⟩ := hq4.fz (.head _)
  have HQ4 := Lib.hid hq4
  clear hq4 hB4 hne HSP HPA
  generalize hsp : sptE o (l.map PV.par) id path fresh = se at *
  have HSE := Lib.hid hsp
  clear hsp
  go_wp2
  have HE2 := HQ4.out.set2 (.slice none 0 0) (.slice none 0 0)
  obtain ⟨n0, n1⟩ := HE2.pt (.head _)
  refine bodyPost_ret (v := .tuple #[.agg #[.slice none 0 0, .slice none 0 0], .int .i64 se]) ?_ rfl ⟨HE2.1, .inl ⟨by rw [HSE.out]; exact HNE.out, by rw [HSE.out]⟩⟩
  simp [results, Tryz.results7, go_sem, n0, n1]
 ·obtain ⟨hz, D1, d1, Dp, dp, lq, rfl, hml, r1, r2, r3⟩ := hgood
  have hbn : Bn w (.slice D1 (putE o path).length d1) (putE o path) (.slice Dp lq.length dp) lq lq _ W4 := ⟨r1.base HQ3.out.1, r2.base HQ3.out.1, fun y hy => ((show Row W3 (.slice y.A y.par.ring.length y.cap) y.par.ring W4 from ⟨r1.1, r3 y hy⟩).base HQ3.out.1).2, HQ3.out.on hB4, fun e he h => by
    have g1 := (r2.2.lt _ h).1
    have g2 := blk_lt (HQ3.out.2.1 e he).1
    omega⟩
  have HZ := Lib.hid hz
  have HML := Lib.hid hml
  obtain ⟨c2, c3⟩ := hbn.hold.pt (.head _)
  obtain ⟨c4, c5⟩ := hbn.hold.fz (.head _)
  have HBN := Lib.hid hbn
  clear hbn hB4 hz hml r1 r2 r3 HSP HPA
  go_wp2
  have HE2 := Bn.set (Bn.set HBN.out (show (26 : Nat) ≠ 35 by decide) 0 (.slice D1 (putE o path).length d1)) (show (26 : Nat) ≠ 35 by decide) 1 (.slice Dp lq.length dp)
  have n0 := HE2.hold.cell (.head _) 0
  have n1 := HE2.hold.cell (.head _) 1
  simp only [List.setIfInBounds_toArray, List.set_cons_zero, List.set_cons_succ, List.getElem?_toArray, List.getElem?_cons_zero, List.getElem?_cons_succ] at n0 n1
  refine bodyPost_ret (v := .tuple #[.agg #[.slice D1 (putE o path).length d1, .slice Dp lq.length dp], .int .i64 0]) ?_ rfl ⟨HE2.hold.1, .inr ⟨HZ.out, D1, d1, Dp, dp, lq, rfl, HML.out, HE2.out, HE2.row, HE2.rs⟩⟩
  simp [results, Tryz.results7, go_sem, n0, n1]
end Go.Proofs.YtaedlfiafnbceaaGreat

namespace Go.Proofs.YtaedlfiafnbceaaGreat
open Go.RowKit

def FewAt (w : World) (o : List (Int × Int)) (l : List PV) (e : Ending) (w' : World) : Prop := ∃ b : Bool, e = .returned (.bool b) ∧ (b = true → o.length ≤ 300 ∧ cornN o l l.length ≤ 300 ∧ l.length ≤ 80) ∧ Below w.heap.size w w'
set_option maxRecDepth 100000 in
set_option maxHeartbeats 1000000 in
theorem few6_any (o : List (Int × Int)) (Ao : Option Addr) (co : Nat) (l : List PV) (Ap : Option Addr) (cp : Nat) (ho : o.length ≤ 8796093022208) (w : World) (hr : Prs w Ap l) :
  Calls Tryz.prog 6 #[.agg #[.slice Ao o.length co, .slice Ap l.length cp]] w fun e w' => FewAt w o l e w' := by
 have HR := Lib.hid (fun W (h : Below w.heap.size w W) => hr.on h)
 have HQ := (Hold.refl w).new #[.slice Ao o.length co, .slice Ap l.length cp] 26
 have HO := Lib.hid ho
 clear hr ho
 go_enter Tryz.func6, Tryz.ntmps6
 go_upto_region 1 with (fail)
 generalize (World.alloc _ _) = W1 at HQ ⊢
 obtain ⟨g0, hg0⟩ : ∃ g, w.heap.size = g := ⟨_, rfl⟩
 rw [hg0] at HQ ⊢
 have HG0 := Lib.hid hg0
 clear hg0
 obtain ⟨c0, c1⟩ := HQ.pt (.head _)
 go_wp2_with fail
 go_loopg [3, 4] l.length (fun g n i wr => ∃ k : Nat, k ≤ l.length ∧ g = l.length - k ∧ n = .int .i64 (cornN o l k) ∧ i = .int .i64 k ∧ cornN o l k ≤ 17592186044416 ∧ k ≤ 81 ∧ Hold w [(g0, #[.slice Ao o.length co, .slice Ap l.length cp], 26)] wr)
 case atStart => exact ⟨0, Nat.zero_le _, rfl, rfl, rfl, by have := HO.out; show o.length ≤ _; omega, by decide, HQ⟩
 case round =>
  clear HQ c0 c1
  obtain ⟨k, hk, hgk, rfl, rfl, hcl, hk81, HB⟩ := hrel
  have HGK := Lib.hid hgk
  clear hgk
  obtain ⟨c0, c1⟩ := HB.pt (.head _)
  have HCL := Lib.hid hcl
  have HB9 := Lib.hid HB
  have hcm := fun (m : Nat) (h : k ≤ m) => cornN_mono (o := o) (l := l) h
  have hc0 : o.length ≤ cornN o l k := cornN_mono (o := o) (l := l) (Nat.zero_le k)
  have HCM := Lib.hid (And.intro hc0 (hcm l.length hk))
  by_cases hlt : k < l.length
  ·have b0 : (0 : Int) ≤ (k : Int) := by omega
   have b1 : (k : Int) < (l.length : Int) := by omega
   have hx : l[k]? = some l[k] := List.getElem?_eq_getElem hlt
   have HS := Lib.hid (cornN_succ (o := o) hx)
   by_cases h81 : k < 81
   ·have b2 : (k : Int) < 81 := by omega
    by_cases h400 : cornN o l k ≤ 300
    ·have b3 : (cornN o l k : Int) ≤ 300 := by omega
     have hw := HR.out _ HB.1
     obtain ⟨ad, rfl, -, d0, d1, d2⟩ := hw.at hlt
     have hsz := (hw.2 l[k] (List.getElem_mem hlt)).2.2
     have w1 := wrap_in (n := (cornN o l k : Int) + (l[k].par.ring.length : Int)) (by omega) (by omega)
     clear hw hcm hc0 hx
     obtain ⟨cl, hcl'⟩ : ∃ n, cornN o l k = n := ⟨_, rfl⟩
     rw [hcl'] at hcl b3 w1 HS h400 ⊢
     clear hcl' hsz
     have HSZ := Lib.hid (hr_len HR.out (Below.refl _ w) hlt)
     have H4 := Lib.hid h400
     generalize l[k].par.ring = ps at *
     clear hcl h400 h81 HB
     go_wp2_with fail
     go_roundg (l.length - (k + 1))
     case measure => have := HGK.out; omega
     case rel => exact ⟨k + 1, by omega, rfl, by rw [HS.out]; simp, by go_num, by have := HS.out; have := H4.out; have := HSZ.out; omega, by omega, HB9.out⟩
    ·have b3 : ¬ (cornN o l k : Int) ≤ 300 := by omega
     clear hcm hc0 hx HB
     obtain ⟨cl, hcl'⟩ : ∃ n, cornN o l k = n := ⟨_, rfl⟩
     rw [hcl'] at hcl b3 h400 ⊢
     clear hcl h400 h81 hcl'
     go_wp2
     go_ret
     exact ⟨false, rfl, fun h => (by cases h), HB9.out.1⟩
   ·have b2 : ¬ (k : Int) < 81 := by omega
    have HL : Hid (¬ l.length ≤ 80) := by unfold Hid; omega
    have b4 : ¬ (l.length : Int) ≤ 80 := by omega
    clear hcm hc0 hx HB
    obtain ⟨cl, hcl'⟩ : ∃ n, cornN o l k = n := ⟨_, rfl⟩
    rw [hcl'] at hcl ⊢
    clear hcl h81 hcl'
    by_cases h400 : cl ≤ 300
    ·have b3 : (cl : Int) ≤ 300 := by omega
     clear h400
     go_wp2
     go_ret
     exact ⟨false, rfl, fun h => (by cases h), HB9.out.1⟩
    ·have b3 : ¬ (cl : Int) ≤ 300 := by omega
     clear h400
     go_wp2
     go_ret
     exact ⟨false, rfl, fun h => (by cases h), HB9.out.1⟩
  ·obtain rfl : k = l.length := by omega
   clear hcm hc0 HB
   obtain ⟨cl, hcl'⟩ : ∃ n, cornN o l l.length = n := ⟨_, rfl⟩
   have HCC := Lib.hid hcl'
   rw [hcl'] at hcl ⊢
   clear hcl hcl'
   by_cases h400 : cl ≤ 300
   ·have b3 : (cl : Int) ≤ 300 := by omega
    have H4 := Lib.hid h400
    clear h400
    by_cases h80 : l.length ≤ 80
    ·have b4 : (l.length : Int) ≤ 80 := by omega
     have H8 := Lib.hid h80
     clear h80
     go_wp2
     go_ret
     exact ⟨true, rfl, fun _ => ⟨by have := HCM.out.1; have := HCC.out; have := H4.out; omega, by rw [HCC.out]; exact H4.out, H8.out⟩, HB9.out.1⟩
    ·have b4 : ¬ (l.length : Int) ≤ 80 := by omega
     clear h80
     go_wp2
     go_ret
     exact ⟨false, rfl, fun h => (by cases h), HB9.out.1⟩
   ·have b3 : ¬ (cl : Int) ≤ 300 := by omega
    clear h400
    go_wp2
    go_ret
    exact ⟨false, rfl, fun h => (by cases h), HB9.out.1⟩

def gP : List Par := [⟨1, gvR, noOwn⟩]
def gW : List (Int × Int) := [(2, 0), (2, 4)]
def gO : List (Int × Int) := [(0, 0), (2, 0), (4, 0), (4, 4), (2, 4), (0, 4)]
def gQ : List Par := [⟨1, [(2, 0), (4, 0), (4, 4), (2, 4)], noOwn⟩, ⟨2, [(0, 0), (2, 0), (2, 4), (0, 4)], noOwn⟩]
theorem gP_plan : PlanQ gvR gP := planT_plan (by decide +kernel) (fun x hx => by rw [List.mem_singleton.1 hx]; exact noOwn_ok)
theorem gQ_plan : PlanQ gO gQ := planT_plan (by decide +kernel) (fun x hx => by
 unfold gQ at hx
 simp only [List.mem_cons, List.not_mem_nil, or_false] at hx
 rcases hx with rfl | rfl <;> exact noOwn_ok)
def ringS (r : List (Int × Int)) : Bool := decide (3 ≤ r.length) && decide (r.length ≤ 128) && gdL r && decide (0 < area r) && ((List.range r.length).all fun j => (List.range j).all fun i => decide (nx r i ≠ nx r j) && decide (meetN (nx r i) (nx r (i + 1)) (nx r j) (nx r (j + 1)) = if nxB r.length i j then 1 else 0))
theorem ringS_ch {r : List (Int × Int)} (h : ringS r = true) : chE r = 0 := by
 unfold ringS at h
 simp only [Bool.and_eq_true, decide_eq_true_eq, List.all_eq_true, List.mem_range] at h
 obtain ⟨⟨⟨⟨h1, h2⟩, h3⟩, h4⟩, h5⟩ := h
 exact chE_sound (arE_zero.2 ⟨h2, h3⟩) (sound_iff.2 ⟨h1, h4, fun i j hij hj => (apart_test h1 hij hj).2 (h5 j hj i hij)⟩)
theorem gO_eq : putE gvR gW = gO := by
 unfold putE
 have e1 : putC gvR (pF gW) = [(0, 0), (2, 0), (4, 0), (4, 4), (0, 4)] := by
  rw [putC_at (k := 0) gv_sound (by decide) ⟨onB_iff.1 (by decide +kernel), by decide +kernel, by decide +kernel⟩]
  decide +kernel
 rw [e1, putC_at (k := 3) (chE_zero.1 (ringS_ch (by decide +kernel))).2 (by decide) ⟨onB_iff.1 (by decide +kernel), by decide +kernel, by decide +kernel⟩]
 decide +kernel
theorem gQ_eq : sptL gP 1 gW 2 = gQ := by
 have hc : cutQ nmL gP 1 gW 2 = [⟨2, [(0, 0), (2, 0), (2, 4), (0, 4)], noOwn⟩, ⟨1, [(2, 0), (4, 0), (4, 4), (2, 4)], noOwn⟩] := by
  have e1 : nmL (closedL gW gO) = [(0, 0), (2, 0), (2, 4), (0, 4)] := by
   rw [nmL_eq (ringS_ch (by decide +kernel))]; decide +kernel
  have e2 : nmL (closedL gW.reverse gO) = [(2, 0), (4, 0), (4, 4), (2, 4)] := by
   rw [nmL_eq (ringS_ch (by decide +kernel))]; decide +kernel
  unfold cutQ gP
  rw [List.flatMap_cons, List.flatMap_nil, List.append_nil]
  unfold cutPar
  rw [if_pos rfl]
  show [(⟨2, nmL (closedL gW (putE gvR gW)), noOwn⟩ : Par), ⟨1, nmL (closedL gW.reverse (putE gvR gW)), noOwn⟩] = _
  rw [gO_eq, e1, e2]
 unfold sptL
 rw [hc]
 exact (srtQ_of (l := gQ) (List.Perm.swap _ _ _) (by unfold gQ; decide)).symm
theorem gE_eq : sptE gvR gP 1 gW 2 = 0 := by
 have hsd : ∀ p : Int × Int, gd p = true → (∃ i, i < 4 ∧ onB (nx gvR i) (nx gvR (i + 1)) p = true) → sdV gvR p = 0 := fun p hp ⟨i, hi, h⟩ => by
  have hE : sdE gvR p = 0 := by unfold sdE; rw [gv_ch, if_neg (by decide), if_pos hp]
  unfold sdV
  rw [hE, if_pos rfl]
  unfold sideW
  rw [if_pos ⟨i, hi, onB_iff.1 h⟩]
 refine sp_ok (chkQ_iff gvR gP |>.2 gP_plan) (by decide) (ft_ok (by decide) (by decide) (by decide +kernel) ⟨by decide +kernel, ?_, ?_⟩) (by rw [gO_eq, gQ_eq]; exact (chkQ_iff gO gQ).2 gQ_plan)
 ·have e : rgQ gP 1 = gvR := gP_plan.ring_of (x := ⟨1, gvR, noOwn⟩) List.mem_cons_self rfl
  rw [e]
  exact hsd _ (by decide +kernel) ⟨0, by decide, by decide +kernel⟩
 ·have e : rgQ gP 1 = gvR := gP_plan.ring_of (x := ⟨1, gvR, noOwn⟩) List.mem_cons_self rfl
  rw [e]
  exact hsd _ (by decide +kernel) ⟨2, by decide, by decide +kernel⟩
set_option maxRecDepth 100000 in
set_option maxHeartbeats 2000000 in
theorem cut_answers (w : World) :
  Calls Tryz.prog 5 #[] w fun e w' => e = .returned (.bool true) ∧ Below w.heap.size w w' := by
 have HQ := (((Hold.refl w).new (flatP gvR).toArray 35).new' #[.int .i64 1, .slice (some ⟨w.heap.size, 0, none⟩) 4 4, .string noOwn] 37 (n := w.heap.size + 1) (by simp)).new' (flatP gW).toArray 35 (n := w.heap.size + 1 + 1) (by simp)
 have hp1 := pts_of (ps := gvR) (HQ.2.1 _ (.tail _ (.tail _ (.head _)))).1 (HQ.lt (.tail _ (.tail _ (.head _))))
 have hp2 := pts_of (ps := gW) (HQ.2.1 _ (.head _)).1 (HQ.lt (.head _))
 have hpl : PlanAt _ gvR (some ⟨w.heap.size, 0, none⟩) 4 [⟨⟨1, gvR, noOwn⟩, some ⟨w.heap.size, 0, none⟩, 4⟩] (some ⟨w.heap.size + 1, 0, none⟩) 1 := ⟨⟨items_one (HQ.2.1 _ (.tail _ (.head _))).1 rfl (HQ.lt (.tail _ (.head _))), fun x hx => by
  rw [List.mem_singleton.1 hx]
  exact ⟨hp1, (fun e => by cases e), (show gvR.length * 16 ≤ 140737488355328 by decide)⟩⟩, hp1, (fun e => by cases e), by decide, by decide, fun x hx => by
  rw [List.mem_singleton.1 hx]
  show gvR.length ≤ 4
  decide⟩
 have HSP := Lib.hid (Split_any gvR (some ⟨w.heap.size, 0, none⟩) 4 [⟨⟨1, gvR, noOwn⟩, some ⟨w.heap.size, 0, none⟩, 4⟩] (some ⟨w.heap.size + 1, 0, none⟩) 1 1 gW (some ⟨w.heap.size + 1 + 1, 0, none⟩) 2 2 (show 1 ≤ 1000000 by decide) (by decide) (fun x hx => by
  rw [List.mem_singleton.1 hx]
  show noOwn.size ≤ maxLen
  decide) (by decide) (fun e => by cases e) _ hpl hp2)
 have HQ1 := Lib.hid HQ
 clear HQ hp1 hp2 hpl
 go_enter Tryz.func5, Tryz.ntmps5
 go_wp2_with fail
 go_at_call 13
 refine HSP.out.mono ?_
 clear HSP
 rintro e' W4 ⟨hB4, ⟨hne, -⟩ | ⟨-, D1, d1, Dp, dp, lq, rfl, hml, -⟩⟩
 ·exact absurd gE_eq hne
 ·have hlq : lq.length = 2 := by
   have h1 := congrArg List.length hml
   rw [List.length_map] at h1
   rw [h1]
   exact congrArg List.length gQ_eq
  have hq4 := HQ1.out.on hB4
  have HQ4 := Lib.hid (hq4.new #[.slice D1 (putE gvR gW).length d1, .slice Dp lq.length dp] 26)
  obtain ⟨c0, c1⟩ := HQ4.out.pt (.head _)
  rw [hlq] at c0 c1
  clear hml hB4 hq4
  rw [hlq]
  go_wp2
  go_ret
  exact ⟨rfl, by have := HQ4.out.1; rwa [hlq] at this⟩
end Go.Proofs.YtaedlfiafnbceaaGreat

namespace Go.Proofs.YtaedlfiafnbceaaGreat
open Go.RowKit

theorem putC_in {r : List (Int × Int)} {p : Int × Int} (hs : Sound r) (hp : p ∈ r) : putC r p = r := by
 rw [← withD_eq hs p]
 unfold withD
 rw [if_pos hp]
theorem nmL_some {r : List (Int × Int)} (h : NormP (nmL r)) : chE r = 0 := by
 by_cases hc : chE r = 0
 ·exact hc
 ·have h3 := (norm_sound h).1
  unfold nmL at h3
  rw [if_neg hc] at h3
  simp at h3
section
variable {o : List (Int × Int)} {ps : List Par} {id : Int} {path : List (Int × Int)} {fresh : Int}
end
theorem split_plan {w w' : World} {o : List (Int × Int)} {ps : List Par} {id : Int} {path : List (Int × Int)} {fresh : Int} {A1 Ap1 : Option Addr} {c1 cp1 : Nat} {l' : List PV} (hz : sptE o ps id path fresh = 0) (hml : l'.map PV.par = sptL ps id path fresh) (r1 : Row w (.slice A1 (putE o path).length c1) (putE o path) w') (r2 : RowI w 37 3 encV (.slice Ap1 l'.length cp1) l' w') (r3 : OwnRs w l' w') : PlanAt w' (putE o path) A1 c1 l' Ap1 cp1 ∧ l'.length ≤ 64 ∧ (putE o path).length ≤ 128 ∧ ∀ x ∈ l', x.par.own.size ≤ maxLen := by
 have hQ := (chkQ_iff _ _).1 (sp_zero hz).2.2.2
 have ho := hQ.outP.2.2
 have hm : ∀ x ∈ l', x.par ∈ sptL ps id path fresh := fun x hx => by rw [← hml]; exact List.mem_map_of_mem hx
 refine ⟨planAt_of r1 r2 r3 (by omega) (fun x hx => by have := (hQ.ringP (hm x hx)).2.2; omega), ?_, ho, fun x hx => ?_⟩
 ·have h1 := hQ.fine.2.2.2.1
  have h2 := congrArg List.length hml
  rw [List.length_map] at h2
  omega
 ·have := (hQ.fine.2.1 _ (hm x hx)).2.2
  unfold maxLen; omega
end Go.Proofs.YtaedlfiafnbceaaGreat
