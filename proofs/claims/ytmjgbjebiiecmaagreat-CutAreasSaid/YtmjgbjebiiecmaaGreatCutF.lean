/- The program's cut: what keeps a path from being one. -/
import Derived.Test.YtmjgbjebiiecmaaGreatCutC
import Derived.Test.YtmjgbjebiiecmaaGreatGeoAns
namespace Go.Proofs.YtmjgbjebiiecmaaGreat
open Go.RowKit

set_option maxHeartbeats 1000000 in
theorem isFresh_any (x : Par) (A : Option Addr) (c : Nat) (n : Int) (g7 : Nat) (w : World) (hg : w.cell? ⟨g7, 0, none⟩ = some (.int .i64 n)) (hl : g7 < w.heap.size) :
    Calls Tryz.prog 107 #[.agg #[.int .i64 x.id, .slice A x.ring.length c, .string x.own], .pointer (some ⟨g7, 0, none⟩)] w fun e w' => e = .returned (.bool (x.id == n)) ∧ Below w.heap.size w w' := by
  have HQ := (Hold.refl w).new #[.int .i64 x.id, .slice A x.ring.length c, .string x.own] 40
  have HG : Hid (∀ K W, Hold w K W → W.cell? ⟨g7, 0, none⟩ = some (.int .i64 n)) := fun K W h => (h.1.cell (p := ⟨g7, 0, none⟩) hl).trans hg
  have d0 := HG.out _ _ HQ
  clear hg hl
  go_enter Tryz.func107, Tryz.ntmps107
  go_upto_region 1 with (fail)
  generalize (World.alloc _ _) = W1 at HQ d0 ⊢
  generalize w.heap.size = g0 at HQ ⊢
  obtain ⟨c0, -⟩ := HQ.q3 (.head _)
  have HQ1 := Lib.hid HQ
  clear HQ
  go_wp2
  go_ret
  exact ⟨rfl, HQ1.out.1⟩
set_option maxRecDepth 100000 in
set_option maxHeartbeats 2000000 in
theorem idxFresh_any (l : List PV) (Ap : Option Addr) (cp : Nat) (n : Int) (g7 : Nat) (hn : l.length ≤ 1000000) (w : World) (hr : Prs w Ap l) (hg : w.cell? ⟨g7, 0, none⟩ = some (.int .i64 n)) (hl : g7 < w.heap.size) :
    Calls Tryz.prog 130 #[.slice Ap l.length cp, .func (.func 107) #[] #[.pointer (some ⟨g7, 0, none⟩)]] w fun e w' => ∃ i : Int, e = .returned (.int .i64 i) ∧ Below w.heap.size w w' ∧ (0 ≤ i ↔ ∃ x ∈ l, x.par.id = n) := by
  have HS : Hid (l.length ≤ 1000000) := hn
  have HR := Lib.hid hr
  have HC := Lib.hid (fun W (hb : Below w.heap.size w W) x A c => isFresh_any x A c n g7 W ((hb.cell (p := ⟨g7, 0, none⟩) hl).trans hg) (Nat.lt_of_lt_of_le hl hb.size))
  have HB0 := Below.refl w.heap.size w
  clear hr hg hl hn
  go_enter Tryz.func130, Tryz.ntmps130
  go_wp2_with fail
  go_loopg [8] l.length (fun gg i wr => ∃ k : Nat, k ≤ l.length ∧ gg = l.length - k ∧ i = .int .i64 k ∧ (∀ x ∈ l.take k, x.par.id ≠ n) ∧ Below w.heap.size w wr)
  case atStart => exact ⟨0, Nat.zero_le _, rfl, rfl, fun x hx => by simp at hx, HB0⟩
  case round =>
    clear HB0
    obtain ⟨k, hk, hgk, rfl, hno, hB⟩ := hrel
    have HGK := Lib.hid hgk
    have HNO := Lib.hid hno
    have HB := Lib.hid hB
    clear hgk hno
    by_cases hlt : k < l.length
    · have b0 : (0 : Int) ≤ (k : Int) := by omega
      have b1 : (k : Int) < (l.length : Int) := by omega
      have hws : IntKind.i64.wrap ((k : Int) + 1) = (k : Int) + 1 := by have := HS.out; rw [IntKind.wrap_i64]; omega
      obtain ⟨ad, hA, -, d0, d1, d2⟩ := (HR.out.on hB).at hlt
      have HX : Hid (l[k] ∈ l) := List.getElem_mem hlt
      have HGN : Hid (l[k].par.id ≠ n → ∀ x ∈ l.take (k + 1), x.par.id ≠ n) := fun h x hx => by
        rw [List.take_succ_eq_append_getElem hlt, List.mem_append, List.mem_singleton] at hx
        rcases hx with hx | rfl
        · exact HNO.out x hx
        · exact h
      have HRX := Lib.hid HR.out
      clear HR hB
      subst hA
      generalize l[k] = x at *
      have HC1 := Lib.hid (HC.out wr HB.out x.par x.A x.cap)
      have HCC := Lib.hid HC.out
      clear HC
      cases hid : (x.par.id == n)
      · have HN := Lib.hid (HGN.out (by simpa using hid))
        rw [hid] at HC1
        clear hid
        go_wp2_with (go_at_call 107; go_must (refine HC1.out.mono ?_; rintro e' W3 ⟨rfl, hB3⟩; have HB3 := Lib.hid (HB.out.trans (hB3.mono HB.out.size)); clear hB3))
        go_roundg (l.length - (k + 1))
        case measure => have := HGK.out; omega
        case rel => exact ⟨k + 1, by omega, rfl, by go_num, HN.out, HB3.out⟩
      · have HID : Hid (x.par.id = n) := by unfold Hid; simpa using hid
        rw [hid] at HC1
        clear hid
        go_wp2_with (go_at_call 107; go_must (refine HC1.out.mono ?_; rintro e' W3 ⟨rfl, hB3⟩; have HB3 := Lib.hid (HB.out.trans (hB3.mono HB.out.size)); clear hB3))
        go_ret
        exact ⟨_, rfl, HB3.out, ⟨fun _ => ⟨x, HX.out, HID.out⟩, fun _ => by omega⟩⟩
    · obtain rfl : k = l.length := by omega
      rw [List.take_length] at HNO
      clear hB
      go_wp2
      go_ret
      exact ⟨_, rfl, HB.out, ⟨fun h => absurd h (by decide), fun ⟨x, hx, e⟩ => absurd e (HNO.out x hx)⟩⟩
set_option maxHeartbeats 1000000 in
theorem hasFresh_any (l : List PV) (Ap : Option Addr) (cp : Nat) (n : Int) (g7 : Nat) (bb : Bool) (hbb : bb = true ↔ ∃ x ∈ l, x.par.id = n) (hn : l.length ≤ 1000000) (w : World) (hr : Prs w Ap l) (hg : w.cell? ⟨g7, 0, none⟩ = some (.int .i64 n)) (hl : g7 < w.heap.size) :
    Calls Tryz.prog 101 #[.slice Ap l.length cp, .func (.func 107) #[] #[.pointer (some ⟨g7, 0, none⟩)]] w fun e w' => e = .returned (.bool bb) ∧ Below w.heap.size w w' := by
  have HI := Lib.hid (idxFresh_any l Ap cp n g7 hn w hr hg hl)
  have HBB := Lib.hid hbb
  clear hr hg hl hn hbb
  go_enter Tryz.func101, Tryz.ntmps101
  go_wp2_with (go_at_call 130; go_must (refine HI.out.mono ?_; rintro e' W3 ⟨i, rfl, hB3, hi⟩; have HB3 := Lib.hid hB3; have HI3 := Lib.hid hi; clear hB3 hi))
  go_ret
  refine ⟨?_, HB3.out⟩
  have h := HI3.out.trans HBB.out.symm
  cases bb
  · have : ¬ 0 ≤ i := fun hh => by have := h.1 hh; cases this
    simp [this]
  · have := h.2 rfl
    simp [this]
end Go.Proofs.YtmjgbjebiiecmaaGreat

/- The program's cut: what keeps a path from being one, in the document's order. -/
namespace Go.Proofs.YtmjgbjebiiecmaaGreat
open Go.RowKit

/-- Which error keeps a path from being a cut of a ring. -/
noncomputable def ftE (ids : List Int) (r path : List (Int × Int)) (fresh : Int) : Int :=
  if ¬ (idB fresh = true ∧ 2 ≤ path.length ∧ path.length ≤ 128) then 1 else if fresh ∈ ids then 6 else if gdL path = false then 3 else if ¬ (pF path ≠ pL path ∧ sdV r (pF path) = 0 ∧ sdV r (pL path) = 0) then 7 else 0
theorem ft_arg {ids : List Int} {r path : List (Int × Int)} {fresh : Int} (h : ¬ (idB fresh = true ∧ 2 ≤ path.length ∧ path.length ≤ 128)) : ftE ids r path fresh = 1 := by unfold ftE; rw [if_pos h]
theorem ft_there {ids : List Int} {r path : List (Int × Int)} {fresh : Int} (h : idB fresh = true ∧ 2 ≤ path.length ∧ path.length ≤ 128) (h2 : fresh ∈ ids) : ftE ids r path fresh = 6 := by unfold ftE; rw [if_neg (fun hh => hh h), if_pos h2]
theorem ft_range {ids : List Int} {r path : List (Int × Int)} {fresh : Int} (h : idB fresh = true ∧ 2 ≤ path.length ∧ path.length ≤ 128) (h2 : fresh ∉ ids) (h3 : gdL path = false) : ftE ids r path fresh = 3 := by unfold ftE; rw [if_neg (fun hh => hh h), if_neg h2, if_pos h3]
theorem ft_side {ids : List Int} {r path : List (Int × Int)} {fresh : Int} (h : idB fresh = true ∧ 2 ≤ path.length ∧ path.length ≤ 128) (h2 : fresh ∉ ids) (h3 : gdL path = true) (h4 : ¬ (pF path ≠ pL path ∧ sdV r (pF path) = 0 ∧ sdV r (pL path) = 0)) : ftE ids r path fresh = 7 := by unfold ftE; rw [if_neg (fun hh => hh h), if_neg h2, if_neg (by rw [h3]; decide), if_pos h4]
theorem ft_ok {ids : List Int} {r path : List (Int × Int)} {fresh : Int} (h : idB fresh = true ∧ 2 ≤ path.length ∧ path.length ≤ 128) (h2 : fresh ∉ ids) (h3 : gdL path = true) (h4 : pF path ≠ pL path ∧ sdV r (pF path) = 0 ∧ sdV r (pL path) = 0) : ftE ids r path fresh = 0 := by unfold ftE; rw [if_neg (fun hh => hh h), if_neg h2, if_neg (by rw [h3]; decide), if_neg (fun hh => hh h4)]
theorem ft_zero {ids : List Int} {r path : List (Int × Int)} {fresh : Int} (h : ftE ids r path fresh = 0) : (idB fresh = true ∧ 2 ≤ path.length ∧ path.length ≤ 128) ∧ fresh ∉ ids ∧ gdL path = true ∧ pF path ≠ pL path ∧ sdV r (pF path) = 0 ∧ sdV r (pL path) = 0 := by
  unfold ftE at h
  split at h
  · cases h
  · rename_i h1
    split at h
    · cases h
    · rename_i h2
      split at h
      · cases h
      · rename_i h3
        split at h
        · cases h
        · rename_i h4
          exact ⟨Classical.not_not.1 h1, h2, (Bool.not_eq_false _).mp h3, Classical.not_not.1 h4⟩
set_option maxRecDepth 100000 in
set_option maxHeartbeats 2000000 in
theorem fault_any (o : List (Int × Int)) (Ao : Option Addr) (co : Nat) (l : List PV) (Ap : Option Addr) (cp : Nat) (r path : List (Int × Int)) (B A : Option Addr) (cb ca : Nat) (fresh : Int) (hl : l.length ≤ 1000000) (hn : path.length * 16 ≤ 140737488355328) (hrn : r.length ≤ maxLen) (w : World) (hp : Prs w Ap l) (hr : Pts w w.heap.size B r) (hq : Pts w w.heap.size A path) :
    Calls Tryz.prog 82 #[.agg #[.slice Ao o.length co, .slice Ap l.length cp], .slice B r.length cb, .slice A path.length ca, .int .i64 fresh] w fun e w' => e = .returned (.int .i64 (ftE (l.map fun x => x.par.id) r path fresh)) ∧ Below w.heap.size w w' := by
  have HQ := ((Hold.refl w).new #[.slice Ao o.length co, .slice Ap l.length cp] 26).new' #[.int .i64 fresh] 3 (n := w.heap.size + 1) (by simp)
  have HPR := Lib.hid (fun K W (h : Hold w K W) => hp.on h.1)
  have HHF := Lib.hid (fun bb hbb g7 K W (h : Hold w K W) hg hlt => hasFresh_any l Ap cp fresh g7 bb hbb hl W (hp.on h.1) hg hlt)
  have HGD := Lib.hid (fun K W (h : Hold w K W) => good_any path A ca W (by unfold maxLen; omega) (hq.on h.1))
  have HSP := Lib.hid (fun (h1 : 1 ≤ path.length) (h2 : path.length ≤ 1000000) K W (h : Hold w K W) => spans_any path r A B ca cb h1 h2 hrn W (hq.on h.1) (hr.on h.1))
  have HL : Hid (path.length ≤ 9000000000000000000) := by unfold Hid; omega
  have hmem : fresh ∈ (l.map fun x => x.par.id) ↔ ∃ x ∈ l, x.par.id = fresh := List.mem_map
  have HM := Lib.hid hmem
  clear hp hr hq hl hn hrn hmem
  generalize (l.map fun x => x.par.id) = ids at *
  go_enter Tryz.func82, Tryz.ntmps82
  go_upto_region 1 with (fail)
  generalize (World.alloc _ _) = W1 at HQ ⊢
  generalize w.heap.size + 1 = g7 at HQ ⊢
  generalize w.heap.size = g4 at HQ ⊢
  obtain ⟨c0, c1⟩ := HQ.pt (.tail _ (.head _))
  have c2 := HQ.cell (.head _) 0
  have HZ := Lib.hid (HQ.lt (.head _))
  simp only [List.getElem?_toArray, List.getElem?_cons_zero] at c2
  have HQX := Lib.hid HQ
  clear HQ
  have hcase : fresh < 1 ∨ (¬ fresh < 1 ∧ 1073741824 < fresh) ∨ (¬ fresh < 1 ∧ ¬ 1073741824 < fresh ∧ (path.length : Int) < 2) ∨ (¬ fresh < 1 ∧ ¬ 1073741824 < fresh ∧ ¬ (path.length : Int) < 2 ∧ 128 < (path.length : Int)) ∨ (¬ fresh < 1 ∧ ¬ 1073741824 < fresh ∧ ¬ (path.length : Int) < 2 ∧ ¬ 128 < (path.length : Int)) := by omega
  rcases hcase with h1 | ⟨h1, h2⟩ | ⟨h1, h2, h3⟩ | ⟨h1, h2, h3, h4⟩ | ⟨h1, h2, h3, h4⟩
  · have HE := Lib.hid (ft_arg (ids := ids) (r := r) (path := path) (fresh := fresh) fun h => by have := id_pos h.1; omega)
    go_wp2
    go_ret
    exact ⟨by rw [HE.out]; rfl, HQX.out.1⟩
  · have HE := Lib.hid (ft_arg (ids := ids) (r := r) (path := path) (fresh := fresh) fun h => by have := id_pos h.1; omega)
    go_wp2
    go_ret
    exact ⟨by rw [HE.out]; rfl, HQX.out.1⟩
  · have HE := Lib.hid (ft_arg (ids := ids) (r := r) (path := path) (fresh := fresh) fun h => by omega)
    have h3' : path.length < 2 := by omega
    go_wp2
    go_ret
    exact ⟨by rw [HE.out]; rfl, HQX.out.1⟩
  · have HE := Lib.hid (ft_arg (ids := ids) (r := r) (path := path) (fresh := fresh) fun h => by omega)
    have h3' : ¬ path.length < 2 := by omega
    have h4' : 128 < path.length := by omega
    go_wp2
    go_ret
    exact ⟨by rw [HE.out]; rfl, HQX.out.1⟩
  · have HI : Hid (idB fresh = true ∧ 2 ≤ path.length ∧ path.length ≤ 128) := ⟨by unfold idB; rw [Bool.and_eq_true, decide_eq_true_iff, decide_eq_true_iff]; omega, by omega, by omega⟩
    have h3' : ¬ path.length < 2 := by omega
    have h4' : ¬ 128 < path.length := by omega
    have HS2 := Lib.hid (HSP.out (by omega) (by omega))
    by_cases hm : fresh ∈ ids
    · have HE := Lib.hid (ft_there (r := r) HI.out hm)
      have HF := Lib.hid (fun K W h hg hlt => HHF.out true (by rw [← HM.out]; exact ⟨fun _ => hm, fun _ => rfl⟩) g7 K W h hg hlt)
      clear hm
      go_wp2_with (go_at_call 101; go_must (refine (HF.out _ _ HQX.out c2 HZ.out).mono ?_; rintro e' W3 ⟨rfl, hB⟩; have HQ3 := Lib.hid (HQX.out.on hB); clear hB))
      go_ret
      exact ⟨by rw [HE.out]; rfl, HQ3.out.1⟩
    · have HF := Lib.hid (fun K W h hg hlt => HHF.out false (by rw [← HM.out]; exact ⟨fun h => Bool.noConfusion h, fun h => absurd h hm⟩) g7 K W h hg hlt)
      have HNM := Lib.hid hm
      clear hm
      cases hg : gdL path
      · have HE := Lib.hid (ft_range (r := r) HI.out HNM.out hg)
        rw [hg] at HGD
        clear hg
        go_wp2_with (first
          | (go_at_call 101; go_must (refine (HF.out _ _ HQX.out c2 HZ.out).mono ?_; rintro e' W3 ⟨rfl, hB⟩; have HQ3 := Lib.hid (HQX.out.on hB); clear hB))
          | (go_at_call 97; go_must (refine (HGD.out _ _ HQ3.out).mono ?_; rintro e' W4 ⟨rfl, hB⟩; have HQ4 := Lib.hid (HQ3.out.on hB); clear hB)))
        go_ret
        exact ⟨by rw [HE.out]; rfl, HQ4.out.1⟩
      · have HGP := Lib.hid hg
        rw [hg] at HGD
        clear hg
        by_cases hs : pF path ≠ pL path ∧ sdV r (pF path) = 0 ∧ sdV r (pL path) = 0
        · have HE := Lib.hid (ft_ok HI.out HNM.out HGP.out hs)
          rw [decide_eq_true hs] at HS2
          clear hs
          go_wp2_with (first
            | (go_at_call 101; go_must (refine (HF.out _ _ HQX.out c2 HZ.out).mono ?_; rintro e' W3 ⟨rfl, hB⟩; have HQ3 := Lib.hid (HQX.out.on hB); clear hB))
            | (go_at_call 97; go_must (refine (HGD.out _ _ HQ3.out).mono ?_; rintro e' W4 ⟨rfl, hB⟩; have HQ4 := Lib.hid (HQ3.out.on hB); clear hB))
            | (go_at_call 108; go_must (refine (HS2.out _ _ HQ4.out).mono ?_; rintro e' W5 ⟨rfl, hB⟩; have HQ5 := Lib.hid (HQ4.out.on hB); clear hB)))
          go_ret
          exact ⟨by rw [HE.out]; rfl, HQ5.out.1⟩
        · have HE := Lib.hid (ft_side HI.out HNM.out HGP.out hs)
          rw [decide_eq_false hs] at HS2
          clear hs
          go_wp2_with (first
            | (go_at_call 101; go_must (refine (HF.out _ _ HQX.out c2 HZ.out).mono ?_; rintro e' W3 ⟨rfl, hB⟩; have HQ3 := Lib.hid (HQX.out.on hB); clear hB))
            | (go_at_call 97; go_must (refine (HGD.out _ _ HQ3.out).mono ?_; rintro e' W4 ⟨rfl, hB⟩; have HQ4 := Lib.hid (HQ3.out.on hB); clear hB))
            | (go_at_call 108; go_must (refine (HS2.out _ _ HQ4.out).mono ?_; rintro e' W5 ⟨rfl, hB⟩; have HQ5 := Lib.hid (HQ4.out.on hB); clear hB)))
          go_ret
          exact ⟨by rw [HE.out]; rfl, HQ5.out.1⟩
end Go.Proofs.YtmjgbjebiiecmaaGreat
