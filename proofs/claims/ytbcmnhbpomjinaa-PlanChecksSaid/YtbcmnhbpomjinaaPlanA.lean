/- What layer plan's laws share: the program's Begin, the given answer, which plans are small. -/
import Derived.Test.YtbcmnhbpomjinaaPgO
namespace Go.Proofs.Ytbcmnhbpomjinaa
open Go.RowKit

/-- A plan as it lies in memory: its slices' own bounds too. -/
structure PlanAt (w : World) (o : List (Int × Int)) (Ao : Option Addr) (co : Nat) (l : List PV) (Ap : Option Addr) (cp : Nat) : Prop where
  prs : Prs w Ap l
  out : Pts w w.heap.size Ao o
  nil : NilOk Ao co
  room : o.length * 16 ≤ 140737488355328
  caps : o.length ≤ co ∧ ∀ x ∈ l, x.par.ring.length ≤ x.cap
theorem PlanAt.on {w w' : World} {o : List (Int × Int)} {Ao : Option Addr} {co : Nat} {l : List PV} {Ap : Option Addr} {cp : Nat} (h : PlanAt w o Ao co l Ap cp) (hb : Below w.heap.size w w') : PlanAt w' o Ao co l Ap cp :=
  ⟨h.prs.on hb, h.out.on hb, h.nil, h.room, h.caps⟩
theorem Pts.apart {W W' : World} {A : Option Addr} {ps : List (Int × Int)} {g : Nat} (h : Pts W W.heap.size A ps) (hfar : ∀ k, k ≠ g → W'.heap[k]? = W.heap[k]?) (hs : W.heap.size ≤ W'.heap.size) (hne : ∀ ad, A = some ad → ad.block ≠ g) : Pts W' W'.heap.size A ps := fun hp => by
  obtain ⟨ad, e, hb, hc⟩ := h hp
  have hn := hne ad e
  refine ⟨ad, e, by omega, fun k p hk => ?_⟩
  obtain ⟨c0, c1⟩ := hc k p hk
  exact ⟨(World.cell?_of_block (hfar _ (by rw [block_of_add]; exact hn))).trans c0, (World.cell?_of_block (hfar _ (by rw [block_of_add, block_of_add]; exact hn))).trans c1⟩
/-- Which error Begin tells. -/
noncomputable def bgE (ps : List (Int × Int)) (id : Int) (s : ByteArray) : Int := if chE ps = 0 then (if idB id = true ∧ owB s = true then 0 else 1) else chE ps
theorem bgE_bad {ps : List (Int × Int)} {id : Int} {s : ByteArray} (h : chE ps ≠ 0) : bgE ps id s = chE ps := by unfold bgE; rw [if_neg h]
theorem bgE_arg {ps : List (Int × Int)} {id : Int} {s : ByteArray} (h : chE ps = 0) (h2 : ¬ (idB id = true ∧ owB s = true)) : bgE ps id s = 1 := by unfold bgE; rw [if_pos h, if_neg h2]
theorem bgE_ok {ps : List (Int × Int)} {id : Int} {s : ByteArray} (h : chE ps = 0) (h1 : idB id = true) (h2 : owB s = true) : bgE ps id s = 0 := by unfold bgE; rw [if_pos h, if_pos ⟨h1, h2⟩]
theorem nmL_len {ps : List (Int × Int)} (h : chE ps = 0) : (nmL ps).length = ps.length := by rw [nmL_eq h, rotL_length]
/-- What Begin answers. -/
def BegunAt (w w' : World) (ps : List (Int × Int)) (id : Int) (s : ByteArray) (e : Ending) : Prop :=
  Below w.heap.size w w' ∧ ((bgE ps id s ≠ 0 ∧ e = .returned (.tuple #[.agg #[.slice none 0 0, .slice none 0 0], .int .i64 (bgE ps id s)])) ∨
    (bgE ps id s = 0 ∧ ∃ A1 c1 A2 c2 Ap1 cp1, e = .returned (.tuple #[.agg #[.slice A1 (nmL ps).length c1, .slice Ap1 1 cp1], .int .i64 0]) ∧ PlanAt w' (nmL ps) A1 c1 [⟨⟨id, nmL ps, s⟩, A2, c2⟩] Ap1 cp1))
set_option maxRecDepth 100000 in
set_option maxHeartbeats 1000000 in
theorem Begin_any (ps : List (Int × Int)) (A : Option Addr) (cap : Nat) (id : Int) (s : ByteArray) (hs : s.size ≤ maxLen) (hn : ps.length ≤ 8796093022208) (hcap : ps.length ≤ cap) (w : World) (hr : Pts w w.heap.size A ps) :
    Calls Try.prog 10 #[.slice A ps.length cap, .int .i64 id, .string s] w fun e w' => BegunAt w w' ps id s e := by
  have HQ := (Hold.refl w).new #[.slice none 0 0, .slice none 0 0] 26
  have HNM := Lib.hid (fun W (h : Below w.heap.size w W) => Norm_any ps A cap (by unfold maxLen; omega) hcap W (hr.on h))
  have HID := Lib.hid (fun W => id_any id W)
  have HOW := Lib.hid (fun W => owner_any s hs W)
  clear hr
  go_enter Try.func10, Try.ntmps10
  go_upto_region 1 with (fail)
  generalize (World.alloc _ _) = W1 at HQ ⊢
  generalize hg : w.heap.size = g0 at HQ ⊢
  have HG0 := Lib.hid hg
  have HQX := Lib.hid HQ
  clear HQ hg
  by_cases hc : chE ps = 0
  · have e0 : (chE ps == 0) = true := by simpa using hc
    have e1 : (chE ps != 0) = false := by simpa using hc
    have HC := Lib.hid hc
    clear hc
    cases hi : idB id
    · have HE : Hid (bgE ps id s = 1) := bgE_arg HC.out (fun h => by rw [hi] at h; cases h.1)
      rw [hi] at HID
      clear hi
      go_upto_region 4 with (go_at_call 29; go_must (refine (HNM.out _ HQX.out.1).mono ?_; rintro e' W3 ⟨v, rfl, hv⟩; have hq3 := HQX.out.on hv.1; obtain ⟨y0, y1, z0, z1⟩ := hq3.top; have HQ3 := Lib.hid hq3; clear hv hq3))
      go_wp2_with (go_at_call 30; go_must (refine (HID.out _).mono ?_; rintro e' w' ⟨rfl, rfl⟩))
      have HE2 := HQ3.out.set2 (.slice none 0 0) (.slice none 0 0)
      obtain ⟨n0, n1⟩ := HE2.pt (.head _)
      refine bodyPost_ret (v := .tuple #[.agg #[.slice none 0 0, .slice none 0 0], .int .i64 1]) ?_ rfl ⟨HE2.1, .inl ⟨by rw [HE.out]; decide, by rw [HE.out]⟩⟩
      simp [results, Try.results10, go_sem, n0, n1]
    · rw [hi] at HID
      cases ho : owB s
      · have HE : Hid (bgE ps id s = 1) := bgE_arg HC.out (fun h => by rw [ho] at h; cases h.2)
        rw [ho] at HOW
        clear hi ho
        go_upto_region 4 with (go_at_call 29; go_must (refine (HNM.out _ HQX.out.1).mono ?_; rintro e' W3 ⟨v, rfl, hv⟩; have hq3 := HQX.out.on hv.1; have HQ3 := Lib.hid hq3; clear hv hq3))
        go_wp2_with (first
          | (go_at_call 30; go_must (refine (HID.out _).mono ?_; rintro e' w' ⟨rfl, rfl⟩))
          | (go_at_call 31; go_must (refine (HOW.out _).mono ?_; rintro e' W4 ⟨rfl, hB⟩; have hq4 := HQ3.out.on hB; obtain ⟨y0, y1, z0, z1⟩ := hq4.top; have HQ4 := Lib.hid hq4; clear hB hq4)))
        have HE2 := HQ4.out.set2 (.slice none 0 0) (.slice none 0 0)
        obtain ⟨n0, n1⟩ := HE2.pt (.head _)
        refine bodyPost_ret (v := .tuple #[.agg #[.slice none 0 0, .slice none 0 0], .int .i64 1]) ?_ rfl ⟨HE2.1, .inl ⟨by rw [HE.out]; decide, by rw [HE.out]⟩⟩
        simp [results, Try.results10, go_sem, n0, n1]
      · have HE : Hid (bgE ps id s = 0) := bgE_ok HC.out hi ho
        rw [ho] at HOW
        clear hi ho
        have HLN : Hid ((nmL ps).length ≤ 128) := by unfold Hid; rw [nmL_len HC.out]; exact (arE_zero.1 (chE_zero.1 HC.out).1).1
        have HBG : Hid (∀ (w' : World) (e : Ending), Below w.heap.size w w' → (∃ A1 c1 A2 c2 Ap1 cp1, e = .returned (.tuple #[.agg #[.slice A1 (nmL ps).length c1, .slice Ap1 1 cp1], .int .i64 0]) ∧ PlanAt w' (nmL ps) A1 c1 [⟨⟨id, nmL ps, s⟩, A2, c2⟩] Ap1 cp1) → BegunAt w w' ps id s e) := fun w' e hB h => ⟨hB, .inr ⟨HE.out, h⟩⟩
        generalize nmL ps = qs at *
        have HCL := Lib.hid (fun A' c' W (hp : Pts W W.heap.size A' qs) (hnil : NilOk A' c') => clone_any qs A' c' (by have := HLN.out; omega) hnil W hp)
        go_upto_region 4 with (go_at_call 29; go_must (refine (HNM.out _ HQX.out.1).mono ?_; rintro e' W3 ⟨v, rfl, hv⟩; have hq3 := HQX.out.on hv.1; have HQ3 := Lib.hid hq3; obtain ⟨A3, c3, rfl, hp3, hn3, hc3⟩ := hv.full; have HP3 := Lib.hid hp3; have HN3 := Lib.hid hn3; have HC3 := Lib.hid hc3; have HB13 := Lib.hid hv.1.size; have HE3 := Lib.hid (fun ad (e : A3 = some ad) => (hv.2.lt ad.block (by rw [e]; rfl)).1); clear hv hq3 hp3 hn3 hc3))
        go_upto_region 7 with (first
          | (go_at_call 30; go_must (refine (HID.out _).mono ?_; rintro e' w' ⟨rfl, rfl⟩))
          | (go_at_call 31; go_must (refine (HOW.out _).mono ?_; rintro e' W4 ⟨rfl, hB⟩; have hq4 := HQ3.out.on hB; have hp4 := HP3.out.on hB; have HQ4 := Lib.hid hq4; have HP4 := Lib.hid hp4; have HB14 := Lib.hid (Nat.le_trans HB13.out hB.size); clear hB hq4 hp4))
          | (go_at_call 32; go_must (refine (HCL.out _ _ _ HP4.out HN3.out).mono ?_; rintro e' W5 ⟨v5, rfl, hv5⟩; have hq5 := HQ4.out.on hv5.1; have HQ5 := Lib.hid hq5; have HP5 := Lib.hid (HP4.out.on hv5.1); obtain ⟨A5, c5, rfl, hp5, hn5, hc5⟩ := hv5.full; have HP6 := Lib.hid hp5; have HN5 := Lib.hid hn5; have HC5 := Lib.hid hc5; have HE5 := Lib.hid (fun ad (e : A5 = some ad) => Nat.le_trans HB14.out (hv5.2.lt ad.block (by rw [e]; rfl)).1); clear hv5 hq5 hp5 hn5 hc5)))
        have hq6 := HQ5.out.new #[.int .i64 id, .slice A5 qs.length c5, .string s] 40
        have hp6 := HP5.out.on ((Below.refl _ W5).alloc (Nat.le_refl _) (Obj.cells #[.int .i64 id, .slice A5 qs.length c5, .string s] 40 (0, 0)))
        have hr6 := HP6.out.on ((Below.refl _ W5).alloc (Nat.le_refl _) (Obj.cells #[.int .i64 id, .slice A5 qs.length c5, .string s] 40 (0, 0)))
        generalize (World.alloc _ _) = W6 at hq6 hp6 hr6 ⊢
        generalize W5.heap.size = g10 at hq6 ⊢
        have c0 := hq6.cell (.head _) 0
        have c1 := hq6.cell (.head _) 1
        have c2 := hq6.cell (.head _) 2
        simp only [List.getElem?_toArray, List.getElem?_cons_zero, List.getElem?_cons_succ] at c0 c1 c2
        have hz6 := hq6.lt (.head _)
        have hz0 := hq6.lt (List.mem_cons_of_mem _ List.mem_cons_self)
        obtain ⟨y0, y1, z0, z1⟩ := hq6.tail.top
        have HQ6 := Lib.hid hq6.tail
        have HP6' := Lib.hid hp6
        have HR6' := Lib.hid hr6
        clear hq6 hp6 hr6
        go_wp2
        have HE2 := HQ6.out.set2 (.slice A3 qs.length c3) (.slice (some ⟨W6.heap.size, 0, none⟩) 1 1)
        have hg1 := HQX.out.lt (.head _)
        have hfar : ∀ k, k ≠ g0 → ((W6.setCell ⟨g0, 0, none⟩ (.slice A3 qs.length c3)).setCell ⟨g0, 1, none⟩ (.slice (some ⟨W6.heap.size, 0, none⟩) 1 1)).heap[k]? = W6.heap[k]? := fun k hk => (Below.heap_setCell _ _ _ k hk).trans (Below.heap_setCell _ _ _ k hk)
        have hs8 : ((W6.setCell ⟨g0, 0, none⟩ (.slice A3 qs.length c3)).setCell ⟨g0, 1, none⟩ (.slice (some ⟨W6.heap.size, 0, none⟩) 1 1)).heap.size = W6.heap.size := by simp [World.setCell]
        have hP8 := HP6'.out.apart hfar (Nat.le_of_eq hs8.symm) (fun ad e => by have := HE3.out ad e; omega)
        have hR8 := HR6'.out.apart hfar (Nat.le_of_eq hs8.symm) (fun ad e => by have := HE5.out ad e; omega)
        obtain ⟨sz, hsz⟩ : ∃ n, W6.heap.size = n := ⟨_, rfl⟩
        rw [hsz] at HE2 hs8 hP8 hR8 ⊢
        clear hfar hsz c0 c1 c2 y0 y1 z0 z1 hz6 hz0
        generalize ((W6.setCell ⟨g0, 0, none⟩ (.slice A3 qs.length c3)).setCell ⟨g0, 1, none⟩ (.slice (some ⟨sz, 0, none⟩) 1 1)) = W8 at *
        subst hs8
        have hb := (Below.refl W8.heap.size W8).alloc (Nat.le_refl _) (Obj.cells #[.int .i64 id, .slice A5 qs.length c5, .string s] 40 (0, 0))
        have hN := heap_alloc_new W8 (Obj.cells #[.int .i64 id, .slice A5 qs.length c5, .string s] 40 (0, 0))
        have HE9 := HE2.alloc (Obj.cells #[.int .i64 id, .slice A5 qs.length c5, .string s] 40 (0, 0))
        obtain ⟨n0, n1⟩ := HE9.pt (.head _)
        refine bodyPost_ret (v := .tuple #[.agg #[.slice A3 qs.length c3, .slice (some ⟨W8.heap.size, 0, none⟩) 1 1], .int .i64 0]) ?_ rfl (HBG.out _ _ HE9.1 ⟨A3, c3, A5, c5, _, 1, rfl, ⟨⟨?_, fun x hx => ?_⟩, hP8.on hb, HN3.out, by have := HLN.out; omega, HC3.out, fun x hx => ?_⟩⟩)
        · simp [results, Try.results10, go_sem, n0, n1]
        · exact items_one hN rfl (by rw [World.size_alloc]; omega)
        · obtain rfl := List.mem_singleton.1 hx
          exact ⟨hR8.on hb, HN5.out, by have := HLN.out; show qs.length * 16 ≤ _; omega⟩
        · obtain rfl := List.mem_singleton.1 hx
          exact HC5.out
  · have e0 : (chE ps == 0) = false := by simpa using hc
    have e1 : (chE ps != 0) = true := by simpa using hc
    have HE : Hid (bgE ps id s = chE ps) := bgE_bad hc
    have HC := Lib.hid hc
    clear hc
    go_wp2_with (go_at_call 29; go_must (refine (HNM.out _ HQX.out.1).mono ?_; rintro e' W3 ⟨v, rfl, hv⟩; have hq3 := HQX.out.on hv.1; obtain ⟨y0, y1, z0, z1⟩ := hq3.top; have HQ3 := Lib.hid hq3; clear hv hq3))
    have HE2 := HQ3.out.set2 (.slice none 0 0) (.slice none 0 0)
    obtain ⟨n0, n1⟩ := HE2.pt (.head _)
    refine bodyPost_ret (v := .tuple #[.agg #[.slice none 0 0, .slice none 0 0], .int .i64 (chE ps)]) ?_ rfl ⟨HE2.1, .inl ⟨by rw [HE.out]; exact HC.out, by rw [HE.out]⟩⟩
    simp [results, Try.results10, go_sem, n0, n1]

/-! The given answer. -/
theorem fit_one {r : List (Int × Int)} (hs : Sound r) : Fit r [r] := by
  have he : edgs [r] = edg r := by unfold edgs; simp
  refine ⟨hs, fun q hq => by rw [List.mem_singleton.1 hq]; exact hs, by rw [he]; exact edg_nodup hs, fun e h => by rw [he]; exact h, fun e h => ?_, fun a ha b hb hab => ?_⟩
  · rw [he] at *
    exact ⟨fun _ h2 => edg_way hs h h2, fun _ => h⟩
  · rw [he] at ha hb
    obtain ⟨i, hi, rfl⟩ := mem_edg.1 ha
    obtain ⟨j, hj, rfl⟩ := mem_edg.1 hb
    have hij : i ≠ j := fun e => hab (by rw [e])
    obtain ⟨a1, a2, a3⟩ := hs.2.2 i j (by rw [Nat.mod_eq_of_lt hi, Nat.mod_eq_of_lt hj]; exact hij)
    by_cases hadj : adj r.length i j
    · rw [a2 hadj]
      refine ⟨by decide, fun _ => ?_, fun h => absurd h (by decide)⟩
      have hnx : ∀ k m, k < r.length → m < r.length → (k + 1) % r.length = m % r.length → nx r (k + 1) = nx r m := fun k m _ _ h => by rw [← nx_mod r (k + 1), h, nx_mod]
      rcases hadj with h | h
      · exact .inr (.inr (.inl (hnx i j hi hj h)))
      · exact .inr (.inl (hnx j i hj hi h).symm)
    · rw [a3 hadj]
      exact ⟨by decide, fun h => absurd h (by decide), fun h => absurd h (by decide)⟩
theorem one_checks {r : List (Int × Int)} {id : Int} {s : ByteArray} {A : Option Addr} {c : Nat} (hn : NormP r) (hi : idB id = true) (ho : OwnOk s) : CheckP r [⟨⟨id, r, s⟩, A, c⟩] := by
  have hF : Fit r (rings [(⟨⟨id, r, s⟩, A, c⟩ : PV)]) := fit_one (norm_sound hn)
  obtain ⟨t1, t2⟩ := hF.tries
  obtain ⟨h1, h2, h3⟩ := normP_small hn
  have hid : 0 < id := by unfold idB at hi; rw [Bool.and_eq_true, decide_eq_true_iff, decide_eq_true_iff] at hi; omega
  have hc1 : cornN r [(⟨⟨id, r, s⟩, A, c⟩ : PV)] 1 = r.length + r.length := rfl
  refine ⟨⟨fun k hk x hx => ?_, Nat.le_refl _, (show 1 ≤ 64 by decide), by show cornN r [_] 1 ≤ 1024; rw [hc1]; omega⟩, hn, fun x hx => by rw [List.mem_singleton.1 hx]; exact hn, ?_, fun i hi e he => ?_, fun i j hij hj a b ha hb => ?_, hF.out⟩
  · obtain rfl : k = 0 := by simpa using hk
    obtain rfl : (⟨⟨id, r, s⟩, A, c⟩ : PV) = x := by simpa using hx
    exact ⟨hi, hid, ho, by show cornN r [_] 1 ≤ 1024; rw [hc1]; omega⟩
  · show 0 + area r = area r
    omega
  · obtain rfl : (edgs (rings [(⟨⟨id, r, s⟩, A, c⟩ : PV)]))[i] = e := by rw [List.getElem?_eq_getElem hi] at he; exact Option.some.inj he
    refine ⟨fun j hj hh => ?_, (t1 i hi).2⟩
    rw [List.getElem?_eq_getElem (by omega)] at hh
    exact (t1 i hi).1 j hj (Option.some.inj hh)
  · obtain rfl : (edgs (rings [(⟨⟨id, r, s⟩, A, c⟩ : PV)]))[i] = a := by rw [List.getElem?_eq_getElem (by omega)] at ha; exact Option.some.inj ha
    obtain rfl : (edgs (rings [(⟨⟨id, r, s⟩, A, c⟩ : PV)]))[j] = b := by rw [List.getElem?_eq_getElem hj] at hb; exact Option.some.inj hb
    exact t2 i j hij hj
def gvS : ByteArray := ⟨#[65]⟩
theorem gv_che0 : chE gvR = 0 := chE_zero.2 ⟨gv_ar, gv_sound⟩
theorem gv_nm : nmL gvR = gvR := by rw [nmL_eq gv_che0]; decide +kernel
theorem gv_norm : NormP gvR := ⟨gv_che0, by rw [← nmL_eq gv_che0, gv_nm]⟩
theorem gv_own : OwnOk gvS := ⟨fun j hj => by
  match j, hj with
  | 0, _ => exact (show 32 ≤ (65 : UInt8).toNat ∧ (65 : UInt8).toNat ≤ 126 from ⟨by decide, by decide⟩)
  | j + 1, hj => exact absurd (show j + 1 < 1 from hj) (by omega), by decide⟩
theorem gv_id : idB 1 = true := by decide
theorem gv_bg : bgE gvR 1 gvS = 0 := bgE_ok gv_che0 gv_id (owB_iff.2 gv_own)
set_option maxHeartbeats 1000000 in
theorem plan_answers (w : World) :
    Calls Try.prog 5 #[] w fun e w' => e = .returned (.bool true) ∧ Below w.heap.size w w' := by
  have HBG := Lib.hid (fun cap (h : 4 ≤ cap) => Begin_any gvR (some ⟨w.heap.size, 0, none⟩) cap 1 gvS (by decide) (by decide) h _ (pts_of (heap_alloc_new w (Obj.cells (flatP gvR).toArray 43 (0, 0))) (by simp only [World.size_alloc]; omega)))
  have HB0 := Lib.hid ((Below.refl w.heap.size w).alloc (Nat.le_refl _) (Obj.cells (flatP gvR).toArray 43 (0, 0)))
  go_enter Try.func5, Try.ntmps5
  go_wp2_with fail
  go_at_call 10
  refine (HBG.out _ (by decide)).mono ?_
  rintro e W1 ⟨hB1, ⟨h, -⟩ | ⟨-, A1, c1, A2, c2, Ap1, cp1, rfl, hP⟩⟩
  · exact absurd gv_bg h
  · rw [gv_nm] at hP ⊢
    have hb := (Below.refl W1.heap.size W1).alloc (Nat.le_refl _) (Obj.cells #[.slice A1 gvR.length c1, .slice Ap1 1 cp1] 26 (0, 0))
    have HCK := Lib.hid (PCheck_any gvR A1 c1 [⟨⟨1, gvR, gvS⟩, A2, c2⟩] Ap1 cp1 (show 1 ≤ 1000000 by decide) (by decide) hP.caps.1 hP.caps.2 (fun x hx => by rw [List.mem_singleton.1 hx]; exact (show gvS.size ≤ maxLen by decide)) _ (hP.prs.on hb) (hP.out.on hb))
    rw [ckE_true (by rw [check_eq]; exact chkB_iff.2 (one_checks gv_norm gv_id gv_own))] at HCK
    have HB2 := Lib.hid (Below.trans HB0.out ((Below.trans hB1 (hb.mono hB1.size)).mono HB0.out.size))
    have HQ1 := Lib.hid ((Hold.refl W1).new #[.slice A1 gvR.length c1, .slice Ap1 1 cp1] 26)
    clear hP hB1 hb HBG
    go_wp2_with (go_at_call 7; go_must (refine HCK.out.mono ?_; rintro e' W3 ⟨rfl, hB⟩; have HB3 := Lib.hid (Below.trans HB2.out (hB.mono HB2.out.size)); have hq3 := HQ1.out.on hB; obtain ⟨f0, f1⟩ := hq3.pt (.head _); clear hB hq3))
    go_ret
    exact ⟨rfl, HB3.out⟩

/-! Small plans. -/
theorem hr_len {w W : World} {Ap : Option Addr} {l : List PV} {k : Nat} (h : ∀ W, Below w.heap.size w W → Prs W Ap l) (hB : Below w.heap.size w W) (hlt : k < l.length) : l[k].par.ring.length * 16 ≤ 140737488355328 := ((h W hB).2 l[k] (List.getElem_mem hlt)).2.2
def SmallAt (w : World) (o : List (Int × Int)) (l : List PV) (e : Ending) (w' : World) : Prop := ∃ b : Bool, e = .returned (.bool b) ∧ (b = true → o.length ≤ 400 ∧ cornN o l l.length ≤ 400 ∧ l.length ≤ 80) ∧ Below w.heap.size w w'
set_option maxRecDepth 100000 in
set_option maxHeartbeats 1000000 in
theorem small_any (o : List (Int × Int)) (Ao : Option Addr) (co : Nat) (l : List PV) (Ap : Option Addr) (cp : Nat) (ho : o.length ≤ 8796093022208) (w : World) (hr : Prs w Ap l) :
    Calls Try.prog 6 #[.agg #[.slice Ao o.length co, .slice Ap l.length cp]] w fun e w' => SmallAt w o l e w' := by
  have HR := Lib.hid (fun W (h : Below w.heap.size w W) => hr.on h)
  have HQ := (Hold.refl w).new #[.slice Ao o.length co, .slice Ap l.length cp] 26
  have HO := Lib.hid ho
  clear hr ho
  go_enter Try.func6, Try.ntmps6
  go_upto_region 1 with (fail)
  generalize (World.alloc _ _) = W1 at HQ ⊢
  obtain ⟨g0, hg0⟩ : ∃ g, w.heap.size = g := ⟨_, rfl⟩
  rw [hg0] at HQ ⊢
  have HG0 := Lib.hid hg0
  clear hg0
  obtain ⟨c0, c1⟩ := HQ.pt (.head _)
  go_wp2_with fail
  go_loopg [3, 4] l.length (fun g n i wr => ∃ k : Nat, k ≤ l.length ∧ g = l.length - k ∧ n = .int .i64 (cornN o l k) ∧ i = .int .i64 k ∧ cornN o l k ≤ 17592186044416 ∧ k ≤ 81 ∧ Hold w [(g0, #[.slice Ao o.length co, .slice Ap l.length cp], 26)] wr)
  case atStart => exact ⟨0, Nat.zero_le _, rfl, rfl, rfl, by have := HO.out; show o.length ≤ _; omega, by decide, HQ⟩
  case round =>
    clear HQ c0 c1
    obtain ⟨k, hk, hgk, rfl, rfl, hcl, hk81, HB⟩ := hrel
    have HGK := Lib.hid hgk
    clear hgk
    obtain ⟨c0, c1⟩ := HB.pt (.head _)
    have HCL := Lib.hid hcl
    have HB9 := Lib.hid HB
    have hcm := fun (m : Nat) (h : k ≤ m) => cornN_mono (o := o) (l := l) h
    have hc0 : o.length ≤ cornN o l k := cornN_mono (o := o) (l := l) (Nat.zero_le k)
    have HCM := Lib.hid (And.intro hc0 (hcm l.length hk))
    by_cases hlt : k < l.length
    · have b0 : (0 : Int) ≤ (k : Int) := by omega
      have b1 : (k : Int) < (l.length : Int) := by omega
      have hx : l[k]? = some l[k] := List.getElem?_eq_getElem hlt
      have HS := Lib.hid (cornN_succ (o := o) hx)
      by_cases h81 : k < 81
      · have b2 : (k : Int) < 81 := by omega
        by_cases h400 : cornN o l k ≤ 400
        · have b3 : (cornN o l k : Int) ≤ 400 := by omega
          have hw := HR.out _ HB.1
          obtain ⟨ad, rfl, -, d0, d1, d2⟩ := hw.at hlt
          have hsz := (hw.2 l[k] (List.getElem_mem hlt)).2.2
          have w1 := wrap_in (n := (cornN o l k : Int) + (l[k].par.ring.length : Int)) (by omega) (by omega)
          clear hw hcm hc0 hx
          obtain ⟨cl, hcl'⟩ : ∃ n, cornN o l k = n := ⟨_, rfl⟩
          rw [hcl'] at hcl b3 w1 HS h400 ⊢
          clear hcl' hsz
          have HSZ := Lib.hid (hr_len HR.out (Below.refl _ w) hlt)
          have H4 := Lib.hid h400
          generalize l[k].par.ring = ps at *
          clear hcl h400 h81 HB
          go_wp2_with fail
          go_roundg (l.length - (k + 1))
          case measure => have := HGK.out; omega
          case rel => exact ⟨k + 1, by omega, rfl, by rw [HS.out]; simp, by go_num, by have := HS.out; have := H4.out; have := HSZ.out; omega, by omega, HB9.out⟩
        · have b3 : ¬ (cornN o l k : Int) ≤ 400 := by omega
          clear hcm hc0 hx HB
          obtain ⟨cl, hcl'⟩ : ∃ n, cornN o l k = n := ⟨_, rfl⟩
          rw [hcl'] at hcl b3 h400 ⊢
          clear hcl h400 h81 hcl'
          go_wp2
          go_ret
          exact ⟨false, rfl, fun h => (by cases h), HB9.out.1⟩
      · have b2 : ¬ (k : Int) < 81 := by omega
        have HL : Hid (¬ l.length ≤ 80) := by unfold Hid; omega
        have b4 : ¬ (l.length : Int) ≤ 80 := by omega
        clear hcm hc0 hx HB
        obtain ⟨cl, hcl'⟩ : ∃ n, cornN o l k = n := ⟨_, rfl⟩
        rw [hcl'] at hcl ⊢
        clear hcl h81 hcl'
        by_cases h400 : cl ≤ 400
        · have b3 : (cl : Int) ≤ 400 := by omega
          clear h400
          go_wp2
          go_ret
          exact ⟨false, rfl, fun h => (by cases h), HB9.out.1⟩
        · have b3 : ¬ (cl : Int) ≤ 400 := by omega
          clear h400
          go_wp2
          go_ret
          exact ⟨false, rfl, fun h => (by cases h), HB9.out.1⟩
    · obtain rfl : k = l.length := by omega
      clear hcm hc0 HB
      obtain ⟨cl, hcl'⟩ : ∃ n, cornN o l l.length = n := ⟨_, rfl⟩
      have HCC := Lib.hid hcl'
      rw [hcl'] at hcl ⊢
      clear hcl hcl'
      by_cases h400 : cl ≤ 400
      · have b3 : (cl : Int) ≤ 400 := by omega
        have H4 := Lib.hid h400
        clear h400
        by_cases h80 : l.length ≤ 80
        · have b4 : (l.length : Int) ≤ 80 := by omega
          have H8 := Lib.hid h80
          clear h80
          go_wp2
          go_ret
          exact ⟨true, rfl, fun _ => ⟨by have := HCM.out.1; have := HCC.out; have := H4.out; omega, by rw [HCC.out]; exact H4.out, H8.out⟩, HB9.out.1⟩
        · have b4 : ¬ (l.length : Int) ≤ 80 := by omega
          clear h80
          go_wp2
          go_ret
          exact ⟨false, rfl, fun h => (by cases h), HB9.out.1⟩
      · have b3 : ¬ (cl : Int) ≤ 400 := by omega
        clear h400
        go_wp2
        go_ret
        exact ⟨false, rfl, fun h => (by cases h), HB9.out.1⟩
end Go.Proofs.Ytbcmnhbpomjinaa
