/- What layer plan's laws share: the program's Begin, the given answer, which plans are small. -/
import Derived.Test.YtbcmnhbpomjinaaGreatPgO
namespace Go.Proofs.YtbcmnhbpomjinaaGreat
open Go.RowKit

/-- A plan as it lies in memory: its slices' own bounds too. -/
structure PlanAt (w : World) (o : List (Int × Int)) (Ao : Option Addr) (co : Nat) (l : List PV) (Ap : Option Addr) (cp : Nat) : Prop where
  prs : Prs w Ap l
  out : Pts w w.heap.size Ao o
  nil : NilOk Ao co
  room : o.length * 16 ≤ 140737488355328
  caps : o.length ≤ co ∧ ∀ x ∈ l, x.par.ring.length ≤ x.cap
theorem PlanAt.on {w w' : World} {o : List (Int × Int)} {Ao : Option Addr} {co : Nat} {l : List PV} {Ap : Option Addr} {cp : Nat} (h : PlanAt w o Ao co l Ap cp) (hb : Below w.heap.size w w') : PlanAt w' o Ao co l Ap cp :=
  ⟨h.prs.on hb, h.out.on hb, h.nil, h.room, h.caps⟩
theorem Pts.apart {W W' : World} {A : Option Addr} {ps : List (Int × Int)} {g : Nat} (h : Pts W W.heap.size A ps) (hfar : ∀ k, k ≠ g → W'.heap[k]? = W.heap[k]?) (hs : W.heap.size ≤ W'.heap.size) (hne : ∀ ad, A = some ad → ad.block ≠ g) : Pts W' W'.heap.size A ps := fun hp => by
  obtain ⟨ad, e, hb, hc⟩ := h hp
  have hn := hne ad e
  refine ⟨ad, e, by omega, fun k p hk => ?_⟩
  obtain ⟨c0, c1⟩ := hc k p hk
  exact ⟨(World.cell?_of_block (hfar _ (by rw [block_of_add]; exact hn))).trans c0, (World.cell?_of_block (hfar _ (by rw [block_of_add, block_of_add]; exact hn))).trans c1⟩
/-- Which error Begin tells. -/
noncomputable def bgE (ps : List (Int × Int)) (id : Int) (s : ByteArray) : Int := if chE ps = 0 then (if idB id = true ∧ owB s = true then 0 else 1) else chE ps
theorem bgE_bad {ps : List (Int × Int)} {id : Int} {s : ByteArray} (h : chE ps ≠ 0) : bgE ps id s = chE ps := by unfold bgE; rw [if_neg h]
theorem bgE_arg {ps : List (Int × Int)} {id : Int} {s : ByteArray} (h : chE ps = 0) (h2 : ¬ (idB id = true ∧ owB s = true)) : bgE ps id s = 1 := by unfold bgE; rw [if_pos h, if_neg h2]
theorem bgE_ok {ps : List (Int × Int)} {id : Int} {s : ByteArray} (h : chE ps = 0) (h1 : idB id = true) (h2 : owB s = true) : bgE ps id s = 0 := by unfold bgE; rw [if_pos h, if_pos ⟨h1, h2⟩]
theorem nmL_len {ps : List (Int × Int)} (h : chE ps = 0) : (nmL ps).length = ps.length := by rw [nmL_eq h, rotL_length]
/-- What Begin answers. -/
def BegunAt (w w' : World) (ps : List (Int × Int)) (id : Int) (s : ByteArray) (e : Ending) : Prop :=
  Below w.heap.size w w' ∧ ((bgE ps id s ≠ 0 ∧ e = .returned (.tuple #[.agg #[.slice none 0 0, .slice none 0 0], .int .i64 (bgE ps id s)])) ∨
    (bgE ps id s = 0 ∧ ∃ A1 c1 A2 c2 Ap1 cp1, e = .returned (.tuple #[.agg #[.slice A1 (nmL ps).length c1, .slice Ap1 1 cp1], .int .i64 0]) ∧ PlanAt w' (nmL ps) A1 c1 [⟨⟨id, nmL ps, s⟩, A2, c2⟩] Ap1 cp1))
set_option maxRecDepth 100000 in
set_option maxHeartbeats 1000000 in
theorem Begin_any (ps : List (Int × Int)) (A : Option Addr) (cap : Nat) (id : Int) (s : ByteArray) (hs : s.size ≤ maxLen) (hn : ps.length ≤ 8796093022208) (hcap : ps.length ≤ cap) (w : World) (hr : Pts w w.heap.size A ps) :
    Calls Tryz.prog 42 #[.slice A ps.length cap, .int .i64 id, .string s] w fun e w' => BegunAt w w' ps id s e := by
  have HQ := (Hold.refl w).new #[.slice none 0 0, .slice none 0 0] 26
  have HNM := Lib.hid (fun W (h : Below w.heap.size w W) => Norm_any ps A cap (by unfold maxLen; omega) hcap W (hr.on h))
  have HID := Lib.hid (fun W => id_any id W)
  have HOW := Lib.hid (fun W => owner_any s hs W)
  clear hr
  go_enter Tryz.func42, Tryz.ntmps42
  go_upto_region 1 with (fail)
  generalize (World.alloc _ _) = W1 at HQ ⊢
  generalize hg : w.heap.size = g0 at HQ ⊢
  have HG0 := Lib.hid hg
  have HQX := Lib.hid HQ
  clear HQ hg
  by_cases hc : chE ps = 0
  · have e0 : (chE ps == 0) = true := by simpa using hc
    have e1 : (chE ps != 0) = false := by simpa using hc
    have HC := Lib.hid hc
    clear hc
    cases hi : idB id
    · have HE : Hid (bgE ps id s = 1) := bgE_arg HC.out (fun h => by rw [hi] at h; cases h.1)
      rw [hi] at HID
      clear hi
      go_upto_region 4 with (go_at_call 80; go_must (refine (HNM.out _ HQX.out.1).mono ?_; rintro e' W3 ⟨v, rfl, hv⟩; have hq3 := HQX.out.on hv.1; obtain ⟨y0, y1, z0, z1⟩ := hq3.top; have HQ3 := Lib.hid hq3; clear hv hq3))
      go_wp2_with (go_at_call 81; go_must (refine (HID.out _).mono ?_; rintro e' w' ⟨rfl, rfl⟩))
      have HE2 := HQ3.out.set2 (.slice none 0 0) (.slice none 0 0)
      obtain ⟨n0, n1⟩ := HE2.pt (.head _)
      refine bodyPost_ret (v := .tuple #[.agg #[.slice none 0 0, .slice none 0 0], .int .i64 1]) ?_ rfl ⟨HE2.1, .inl ⟨by rw [HE.out]; decide, by rw [HE.out]⟩⟩
      simp [results, Tryz.results42, go_sem, n0, n1]
    · rw [hi] at HID
      cases ho : owB s
      · have HE : Hid (bgE ps id s = 1) := bgE_arg HC.out (fun h => by rw [ho] at h; cases h.2)
        rw [ho] at HOW
        clear hi ho
        go_upto_region 4 with (go_at_call 80; go_must (refine (HNM.out _ HQX.out.1).mono ?_; rintro e' W3 ⟨v, rfl, hv⟩; have hq3 := HQX.out.on hv.1; have HQ3 := Lib.hid hq3; clear hv hq3))
        go_wp2_with (first
          | (go_at_call 81; go_must (refine (HID.out _).mono ?_; rintro e' w' ⟨rfl, rfl⟩))
          | (go_at_call 82; go_must (refine (HOW.out _).mono ?_; rintro e' W4 ⟨rfl, hB⟩; have hq4 := HQ3.out.on hB; obtain ⟨y0, y1, z0, z1⟩ := hq4.top; have HQ4 := Lib.hid hq4; clear hB hq4)))
        have HE2 := HQ4.out.set2 (.slice none 0 0) (.slice none 0 0)
        obtain ⟨n0, n1⟩ := HE2.pt (.head _)
        refine bodyPost_ret (v := .tuple #[.agg #[.slice none 0 0, .slice none 0 0], .int .i64 1]) ?_ rfl ⟨HE2.1, .inl ⟨by rw [HE.out]; decide, by rw [HE.out]⟩⟩
        simp [results, Tryz.results42, go_sem, n0, n1]
      · have HE : Hid (bgE ps id s = 0) := bgE_ok HC.out hi ho
        rw [ho] at HOW
        clear hi ho
        have HLN : Hid ((nmL ps).length ≤ 128) := by unfold Hid; rw [nmL_len HC.out]; exact (arE_zero.1 (chE_zero.1 HC.out).1).1
        have HBG : Hid (∀ (w' : World) (e : Ending), Below w.heap.size w w' → (∃ A1 c1 A2 c2 Ap1 cp1, e = .returned (.tuple #[.agg #[.slice A1 (nmL ps).length c1, .slice Ap1 1 cp1], .int .i64 0]) ∧ PlanAt w' (nmL ps) A1 c1 [⟨⟨id, nmL ps, s⟩, A2, c2⟩] Ap1 cp1) → BegunAt w w' ps id s e) := fun w' e hB h => ⟨hB, .inr ⟨HE.out, h⟩⟩
        generalize nmL ps = qs at *
        have HCL := Lib.hid (fun A' c' W (hp : Pts W W.heap.size A' qs) (hnil : NilOk A' c') => clone_any qs A' c' (by have := HLN.out; omega) hnil W hp)
        go_upto_region 4 with (go_at_call 80; go_must (refine (HNM.out _ HQX.out.1).mono ?_; rintro e' W3 ⟨v, rfl, hv⟩; have hq3 := HQX.out.on hv.1; have HQ3 := Lib.hid hq3; obtain ⟨A3, c3, rfl, hp3, hn3, hc3⟩ := hv.full; have HP3 := Lib.hid hp3; have HN3 := Lib.hid hn3; have HC3 := Lib.hid hc3; have HB13 := Lib.hid hv.1.size; have HE3 := Lib.hid (fun ad (e : A3 = some ad) => (hv.2.lt ad.block (by rw [e]; rfl)).1); clear hv hq3 hp3 hn3 hc3))
        go_upto_region 7 with (first
          | (go_at_call 81; go_must (refine (HID.out _).mono ?_; rintro e' w' ⟨rfl, rfl⟩))
          | (go_at_call 82; go_must (refine (HOW.out _).mono ?_; rintro e' W4 ⟨rfl, hB⟩; have hq4 := HQ3.out.on hB; have hp4 := HP3.out.on hB; have HQ4 := Lib.hid hq4; have HP4 := Lib.hid hp4; have HB14 := Lib.hid (Nat.le_trans HB13.out hB.size); clear hB hq4 hp4))
          | (go_at_call 44; go_must (refine (HCL.out _ _ _ HP4.out HN3.out).mono ?_; rintro e' W5 ⟨v5, rfl, hv5⟩; have hq5 := HQ4.out.on hv5.1; have HQ5 := Lib.hid hq5; have HP5 := Lib.hid (HP4.out.on hv5.1); obtain ⟨A5, c5, rfl, hp5, hn5, hc5⟩ := hv5.full; have HP6 := Lib.hid hp5; have HN5 := Lib.hid hn5; have HC5 := Lib.hid hc5; have HE5 := Lib.hid (fun ad (e : A5 = some ad) => Nat.le_trans HB14.out (hv5.2.lt ad.block (by rw [e]; rfl)).1); clear hv5 hq5 hp5 hn5 hc5)))
        have hq6 := HQ5.out.new #[.int .i64 id, .slice A5 qs.length c5, .string s] 34
        have hp6 := HP5.out.on ((Below.refl _ W5).alloc (Nat.le_refl _) (Obj.cells #[.int .i64 id, .slice A5 qs.length c5, .string s] 34 (0, 0)))
        have hr6 := HP6.out.on ((Below.refl _ W5).alloc (Nat.le_refl _) (Obj.cells #[.int .i64 id, .slice A5 qs.length c5, .string s] 34 (0, 0)))
        generalize (World.alloc _ _) = W6 at hq6 hp6 hr6 ⊢
        generalize W5.heap.size = g10 at hq6 ⊢
        have c0 := hq6.cell (.head _) 0
        have c1 := hq6.cell (.head _) 1
        have c2 := hq6.cell (.head _) 2
        simp only [List.getElem?_toArray, List.getElem?_cons_zero, List.getElem?_cons_succ] at c0 c1 c2
        have hz6 := hq6.lt (.head _)
        have hz0 := hq6.lt (List.mem_cons_of_mem _ List.mem_cons_self)
        obtain ⟨y0, y1, z0, z1⟩ := hq6.tail.top
        have HQ6 := Lib.hid hq6.tail
        have HP6' := Lib.hid hp6
        have HR6' := Lib.hid hr6
        clear hq6 hp6 hr6
        go_wp2
        have HE2 := HQ6.out.set2 (.slice A3 qs.length c3) (.slice (some ⟨W6.heap.size, 0, none⟩) 1 1)
        have hg1 := HQX.out.lt (.head _)
        have hfar : ∀ k, k ≠ g0 → ((W6.setCell ⟨g0, 0, none⟩ (.slice A3 qs.length c3)).setCell ⟨g0, 1, none⟩ (.slice (some ⟨W6.heap.size, 0, none⟩) 1 1)).heap[k]? = W6.heap[k]? := fun k hk => (Below.heap_setCell _ _ _ k hk).trans (Below.heap_setCell _ _ _ k hk)
        have hs8 : ((W6.setCell ⟨g0, 0, none⟩ (.slice A3 qs.length c3)).setCell ⟨g0, 1, none⟩ (.slice (some ⟨W6.heap.size, 0, none⟩) 1 1)).heap.size = W6.heap.size := by simp [World.setCell]
        have hP8 := HP6'.out.apart hfar (Nat.le_of_eq hs8.symm) (fun ad e => by have := HE3.out ad e; omega)
        have hR8 := HR6'.out.apart hfar (Nat.le_of_eq hs8.symm) (fun ad e => by have := HE5.out ad e; omega)
        obtain ⟨sz, hsz⟩ : ∃ n, W6.heap.size = n := ⟨_, rfl⟩
        rw [hsz] at HE2 hs8 hP8 hR8 ⊢
        clear hfar hsz c0 c1 c2 y0 y1 z0 z1 hz6 hz0
        generalize ((W6.setCell ⟨g0, 0, none⟩ (.slice A3 qs.length c3)).setCell ⟨g0, 1, none⟩ (.slice (some ⟨sz, 0, none⟩) 1 1)) = W8 at *
        subst hs8
        have hb := (Below.refl W8.heap.size W8).alloc (Nat.le_refl _) (Obj.cells #[.int .i64 id, .slice A5 qs.length c5, .string s] 34 (0, 0))
        have hN := heap_alloc_new W8 (Obj.cells #[.int .i64 id, .slice A5 qs.length c5, .string s] 34 (0, 0))
        have HE9 := HE2.alloc (Obj.cells #[.int .i64 id, .slice A5 qs.length c5, .string s] 34 (0, 0))
        obtain ⟨n0, n1⟩ := HE9.pt (.head _)
        refine bodyPost_ret (v := .tuple #[.agg #[.slice A3 qs.length c3, .slice (some ⟨W8.heap.size, 0, none⟩) 1 1], .int .i64 0]) ?_ rfl (HBG.out _ _ HE9.1 ⟨A3, c3, A5, c5, _, 1, rfl, ⟨⟨?_, fun x hx => ?_⟩, hP8.on hb, HN3.out, by have := HLN.out; omega, HC3.out, fun x hx => ?_⟩⟩)
        · simp [results, Tryz.results42, go_sem, n0, n1]
        · exact items_one hN rfl (by rw [World.size_alloc]; omega)
        · obtain rfl := List.mem_singleton.1 hx
          exact ⟨hR8.on hb, HN5.out, by have := HLN.out; show qs.length * 16 ≤ _; omega⟩
        · obtain rfl := List.mem_singleton.1 hx
          exact HC5.out
  · have e0 : (chE ps == 0) = false := by simpa using hc
    have e1 : (chE ps != 0) = true := by simpa using hc
    have HE : Hid (bgE ps id s = chE ps) := bgE_bad hc
    have HC := Lib.hid hc
    clear hc
    go_wp2_with (go_at_call 80; go_must (refine (HNM.out _ HQX.out.1).mono ?_; rintro e' W3 ⟨v, rfl, hv⟩; have hq3 := HQX.out.on hv.1; obtain ⟨y0, y1, z0, z1⟩ := hq3.top; have HQ3 := Lib.hid hq3; clear hv hq3))
    have HE2 := HQ3.out.set2 (.slice none 0 0) (.slice none 0 0)
    obtain ⟨n0, n1⟩ := HE2.pt (.head _)
    refine bodyPost_ret (v := .tuple #[.agg #[.slice none 0 0, .slice none 0 0], .int .i64 (chE ps)]) ?_ rfl ⟨HE2.1, .inl ⟨by rw [HE.out]; exact HC.out, by rw [HE.out]⟩⟩
    simp [results, Tryz.results42, go_sem, n0, n1]

/-! The given answer. -/
theorem fit_one {r : List (Int × Int)} (hs : Sound r) : Fit r [r] := by
  have he : edgs [r] = edg r := by unfold edgs; simp
  refine ⟨hs, fun q hq => by rw [List.mem_singleton.1 hq]; exact hs, by rw [he]; exact edg_nodup hs, fun e h => by rw [he]; exact h, fun e h => ?_, fun a ha b hb hab => ?_⟩
  · rw [he] at *
    exact ⟨fun _ h2 => edg_way hs h h2, fun _ => h⟩
  · rw [he] at ha hb
    obtain ⟨i, hi, rfl⟩ := mem_edg.1 ha
    obtain ⟨j, hj, rfl⟩ := mem_edg.1 hb
    have hij : i ≠ j := fun e => hab (by rw [e])
    obtain ⟨a1, a2, a3⟩ := hs.2.2 i j (by rw [Nat.mod_eq_of_lt hi, Nat.mod_eq_of_lt hj]; exact hij)
    by_cases hadj : adj r.length i j
    · rw [a2 hadj]
      refine ⟨by decide, fun _ => ?_, fun h => absurd h (by decide)⟩
      have hnx : ∀ k m, k < r.length → m < r.length → (k + 1) % r.length = m % r.length → nx r (k + 1) = nx r m := fun k m _ _ h => by rw [← nx_mod r (k + 1), h, nx_mod]
      rcases hadj with h | h
      · exact .inr (.inr (.inl (hnx i j hi hj h)))
      · exact .inr (.inl (hnx j i hj hi h).symm)
    · rw [a3 hadj]
      exact ⟨by decide, fun h => absurd h (by decide), fun h => absurd h (by decide)⟩
theorem one_checks {r : List (Int × Int)} {id : Int} {s : ByteArray} {A : Option Addr} {c : Nat} (hn : NormP r) (hi : idB id = true) (ho : OwnOk s) : CheckP r [⟨⟨id, r, s⟩, A, c⟩] := by
  have hF : Fit r (rings [(⟨⟨id, r, s⟩, A, c⟩ : PV)]) := fit_one (norm_sound hn)
  obtain ⟨t1, t2⟩ := hF.tries
  obtain ⟨h1, h2, h3⟩ := normP_small hn
  have hid : 0 < id := by unfold idB at hi; rw [Bool.and_eq_true, decide_eq_true_iff, decide_eq_true_iff] at hi; omega
  have hc1 : cornN r [(⟨⟨id, r, s⟩, A, c⟩ : PV)] 1 = r.length + r.length := rfl
  refine ⟨⟨fun k hk x hx => ?_, Nat.le_refl _, (show 1 ≤ 64 by decide), by show cornN r [_] 1 ≤ 1024; rw [hc1]; omega⟩, hn, fun x hx => by rw [List.mem_singleton.1 hx]; exact hn, ?_, fun i hi e he => ?_, fun i j hij hj a b ha hb => ?_, hF.out⟩
  · obtain rfl : k = 0 := by simpa using hk
    obtain rfl : (⟨⟨id, r, s⟩, A, c⟩ : PV) = x := by simpa using hx
    exact ⟨hi, hid, ho, by show cornN r [_] 1 ≤ 1024; rw [hc1]; omega⟩
  · show 0 + area r = area r
    omega
  · obtain rfl : (edgs (rings [(⟨⟨id, r, s⟩, A, c⟩ : PV)]))[i] = e := by rw [List.getElem?_eq_getElem hi] at he; exact Option.some.inj he
    refine ⟨fun j hj hh => ?_, (t1 i hi).2⟩
    rw [List.getElem?_eq_getElem (by omega)] at hh
    exact (t1 i hi).1 j hj (Option.some.inj hh)
  · obtain rfl : (edgs (rings [(⟨⟨id, r, s⟩, A, c⟩ : PV)]))[i] = a := by rw [List.getElem?_eq_getElem (by omega)] at ha; exact Option.some.inj ha
    obtain rfl : (edgs (rings [(⟨⟨id, r, s⟩, A, c⟩ : PV)]))[j] = b := by rw [List.getElem?_eq_getElem hj] at hb; exact Option.some.inj hb
    exact t2 i j hij hj
def gvS : ByteArray := ⟨#[65]⟩
theorem gv_che0 : chE gvR = 0 := chE_zero.2 ⟨gv_ar, gv_sound⟩
theorem gv_nm : nmL gvR = gvR := by rw [nmL_eq gv_che0]; decide +kernel
theorem gv_norm : NormP gvR := ⟨gv_che0, by rw [← nmL_eq gv_che0, gv_nm]⟩
theorem gv_own : OwnOk gvS := ⟨fun j hj => by
  match j, hj with
  | 0, _ => exact (show 32 ≤ (65 : UInt8).toNat ∧ (65 : UInt8).toNat ≤ 126 from ⟨by decide, by decide⟩)
  | j + 1, hj => exact absurd (show j + 1 < 1 from hj) (by omega), by decide⟩
theorem gv_id : idB 1 = true := by decide
theorem gv_bg : bgE gvR 1 gvS = 0 := bgE_ok gv_che0 gv_id (owB_iff.2 gv_own)
set_option maxHeartbeats 1000000 in
theorem plan_answers (w : World) :
    Calls Tryz.prog 14 #[] w fun e w' => e = .returned (.bool true) ∧ Below w.heap.size w w' := by
  have HBG := Lib.hid (fun cap (h : 4 ≤ cap) => Begin_any gvR (some ⟨w.heap.size, 0, none⟩) cap 1 gvS (by decide) (by decide) h _ (pts_of (heap_alloc_new w (Obj.cells (flatP gvR).toArray 28 (0, 0))) (by simp only [World.size_alloc]; omega)))
  have HB0 := Lib.hid ((Below.refl w.heap.size w).alloc (Nat.le_refl _) (Obj.cells (flatP gvR).toArray 28 (0, 0)))
  go_enter Tryz.func14, Tryz.ntmps14
  go_wp2_with fail
  go_at_call 42
  refine (HBG.out _ (by decide)).mono ?_
  rintro e W1 ⟨hB1, ⟨h, -⟩ | ⟨-, A1, c1, A2, c2, Ap1, cp1, rfl, hP⟩⟩
  · exact absurd gv_bg h
  · rw [gv_nm] at hP ⊢
    have hb := (Below.refl W1.heap.size W1).alloc (Nat.le_refl _) (Obj.cells #[.slice A1 gvR.length c1, .slice Ap1 1 cp1] 26 (0, 0))
    have HCK := Lib.hid (PCheck_any gvR A1 c1 [⟨⟨1, gvR, gvS⟩, A2, c2⟩] Ap1 cp1 (show 1 ≤ 1000000 by decide) (by decide) hP.caps.1 hP.caps.2 (fun x hx => by rw [List.mem_singleton.1 hx]; exact (show gvS.size ≤ maxLen by decide)) _ (hP.prs.on hb) (hP.out.on hb))
    rw [ckE_true (by rw [check_eq]; exact chkB_iff.2 (one_checks gv_norm gv_id gv_own))] at HCK
    have HB2 := Lib.hid (Below.trans HB0.out ((Below.trans hB1 (hb.mono hB1.size)).mono HB0.out.size))
    have HQ1 := Lib.hid ((Hold.refl W1).new #[.slice A1 gvR.length c1, .slice Ap1 1 cp1] 26)
    clear hP hB1 hb HBG
    go_wp2_with (go_at_call 43; go_must (refine HCK.out.mono ?_; rintro e' W3 ⟨rfl, hB⟩; have HB3 := Lib.hid (Below.trans HB2.out (hB.mono HB2.out.size)); have hq3 := HQ1.out.on hB; obtain ⟨f0, f1⟩ := hq3.pt (.head _); clear hB hq3))
    go_ret
    exact ⟨rfl, HB3.out⟩

/-! Small plans. -/
theorem hr_len {w W : World} {Ap : Option Addr} {l : List PV} {k : Nat} (h : ∀ W, Below w.heap.size w W → Prs W Ap l) (hB : Below w.heap.size w W) (hlt : k < l.length) : l[k].par.ring.length * 16 ≤ 140737488355328 := ((h W hB).2 l[k] (List.getElem_mem hlt)).2.2
def SmallAt (w : World) (o : List (Int × Int)) (l : List PV) (e : Ending) (w' : World) : Prop := ∃ b : Bool, e = .returned (.bool b) ∧ (b = true → o.length ≤ 400 ∧ cornN o l l.length ≤ 400 ∧ l.length ≤ 80) ∧ Below w.heap.size w w'
set_option maxRecDepth 100000 in
set_option maxHeartbeats 1000000 in
theorem small_any (o : List (Int × Int)) (Ao : Option Addr) (co : Nat) (l : List PV) (Ap : Option Addr) (cp : Nat) (ho : o.length ≤ 8796093022208) (w : World) (hr : Prs w Ap l) :
    Calls Tryz.prog 15 #[.agg #[.slice Ao o.length co, .slice Ap l.length cp]] w fun e w' => SmallAt w o l e w' := by
  have HR := Lib.hid (fun W (h : Below w.heap.size w W) => hr.on h)
  have HQ := (Hold.refl w).new #[.slice Ao o.length co, .slice Ap l.length cp] 26
  have HO := Lib.hid ho
  clear hr ho
  go_enter Tryz.func15, Tryz.ntmps15
  go_upto_region 1 with (fail)
  generalize (World.alloc _ _) = W1 at HQ ⊢
  obtain ⟨g0, hg0⟩ : ∃ g, w.heap.size = g := ⟨_, rfl⟩
  rw [hg0] at HQ ⊢
  have HG0 := Lib.hid hg0
  clear hg0
  obtain ⟨c0, c1⟩ := HQ.pt (.head _)
  go_wp2_with fail
  go_loopg [3, 4] l.length (fun g n i wr => ∃ k : Nat, k ≤ l.length ∧ g = l.length - k ∧ n = .int .i64 (cornN o l k) ∧ i = .int .i64 k ∧ cornN o l k ≤ 17592186044416 ∧ k ≤ 81 ∧ Hold w [(g0, #[.slice Ao o.length co, .slice Ap l.length cp], 26)] wr)
  case atStart => exact ⟨0, Nat.zero_le _, rfl, rfl, rfl, by have := HO.out; show o.length ≤ _; omega, by decide, HQ⟩
  case round =>
    clear HQ c0 c1
    obtain ⟨k, hk, hgk, rfl, rfl, hcl, hk81, HB⟩ := hrel
    have HGK := Lib.hid hgk
    clear hgk
    obtain ⟨c0, c1⟩ := HB.pt (.head _)
    have HCL := Lib.hid hcl
    have HB9 := Lib.hid HB
    have hcm := fun (m : Nat) (h : k ≤ m) => cornN_mono (o := o) (l := l) h
    have hc0 : o.length ≤ cornN o l k := cornN_mono (o := o) (l := l) (Nat.zero_le k)
    have HCM := Lib.hid (And.intro hc0 (hcm l.length hk))
    by_cases hlt : k < l.length
    · have b0 : (0 : Int) ≤ (k : Int) := by omega
      have b1 : (k : Int) < (l.length : Int) := by omega
      have hx : l[k]? = some l[k] := List.getElem?_eq_getElem hlt
      have HS := Lib.hid (cornN_succ (o := o) hx)
      by_cases h81 : k < 81
      · have b2 : (k : Int) < 81 := by omega
        by_cases h400 : cornN o l k ≤ 400
        · have b3 : (cornN o l k : Int) ≤ 400 := by omega
          have hw := HR.out _ HB.1
          obtain ⟨ad, rfl, -, d0, d1, d2⟩ := hw.at hlt
          have hsz := (hw.2 l[k] (List.getElem_mem hlt)).2.2
          have w1 := wrap_in (n := (cornN o l k : Int) + (l[k].par.ring.length : Int)) (by omega) (by omega)
          clear hw hcm hc0 hx
          obtain ⟨cl, hcl'⟩ : ∃ n, cornN o l k = n := ⟨_, rfl⟩
          rw [hcl'] at hcl b3 w1 HS h400 ⊢
          clear hcl' hsz
          have HSZ := Lib.hid (hr_len HR.out (Below.refl _ w) hlt)
          have H4 := Lib.hid h400
          generalize l[k].par.ring = ps at *
          clear hcl h400 h81 HB
          go_wp2_with fail
          go_roundg (l.length - (k + 1))
          case measure => have := HGK.out; omega
          case rel => exact ⟨k + 1, by omega, rfl, by rw [HS.out]; simp, by go_num, by have := HS.out; have := H4.out; have := HSZ.out; omega, by omega, HB9.out⟩
        · have b3 : ¬ (cornN o l k : Int) ≤ 400 := by omega
          clear hcm hc0 hx HB
          obtain ⟨cl, hcl'⟩ : ∃ n, cornN o l k = n := ⟨_, rfl⟩
          rw [hcl'] at hcl b3 h400 ⊢
          clear hcl h400 h81 hcl'
          go_wp2
          go_ret
          exact ⟨false, rfl, fun h => (by cases h), HB9.out.1⟩
      · have b2 : ¬ (k : Int) < 81 := by omega
        have HL : Hid (¬ l.length ≤ 80) := by unfold Hid; omega
        have b4 : ¬ (l.length : Int) ≤ 80 := by omega
        clear hcm hc0 hx HB
        obtain ⟨cl, hcl'⟩ : ∃ n, cornN o l k = n := ⟨_, rfl⟩
        rw [hcl'] at hcl ⊢
        clear hcl h81 hcl'
        by_cases h400 : cl ≤ 400
        · have b3 : (cl : Int) ≤ 400 := by omega
          clear h400
          go_wp2
          go_ret
          exact ⟨false, rfl, fun h => (by cases h), HB9.out.1⟩
        · have b3 : ¬ (cl : Int) ≤ 400 := by omega
          clear h400
          go_wp2
          go_ret
          exact ⟨false, rfl, fun h => (by cases h), HB9.out.1⟩
    · obtain rfl : k = l.length := by omega
      clear hcm hc0 HB
      obtain ⟨cl, hcl'⟩ : ∃ n, cornN o l l.length = n := ⟨_, rfl⟩
      have HCC := Lib.hid hcl'
      rw [hcl'] at hcl ⊢
      clear hcl hcl'
      by_cases h400 : cl ≤ 400
      · have b3 : (cl : Int) ≤ 400 := by omega
        have H4 := Lib.hid h400
        clear h400
        by_cases h80 : l.length ≤ 80
        · have b4 : (l.length : Int) ≤ 80 := by omega
          have H8 := Lib.hid h80
          clear h80
          go_wp2
          go_ret
          exact ⟨true, rfl, fun _ => ⟨by have := HCM.out.1; have := HCC.out; have := H4.out; omega, by rw [HCC.out]; exact H4.out, H8.out⟩, HB9.out.1⟩
        · have b4 : ¬ (l.length : Int) ≤ 80 := by omega
          clear h80
          go_wp2
          go_ret
          exact ⟨false, rfl, fun h => (by cases h), HB9.out.1⟩
      · have b3 : ¬ (cl : Int) ≤ 400 := by omega
        clear h400
        go_wp2
        go_ret
        exact ⟨false, rfl, fun h => (by cases h), HB9.out.1⟩
end Go.Proofs.YtbcmnhbpomjinaaGreat

/- The document's own copy of a plan. -/
namespace Go.Proofs.YtbcmnhbpomjinaaGreat
open Go.RowKit

theorem rows_apart {W : World} {b1 b2 : Nat} {T1 T2 : TypeId} {s1 s2 n1 n2 : Nat} {v1 v2 : Value} {x1 x2 : List Value} (h1 : W.ownsRow b1 T1 s1 v1 n1 x1) (h2 : W.ownsRow b2 T2 s2 v2 n2 x2) (hne : T1 ≠ T2) : v1.ownBlock = none ∨ v1.ownBlock ≠ v2.ownBlock := by
  rcases h1.2 with ⟨rfl, _⟩ | ⟨g1, c1, cur1, rfl, _, hg1, _⟩
  · exact .inl rfl
  · refine .inr fun e => ?_
    rcases h2.2 with ⟨rfl, _⟩ | ⟨g2, c2, cur2, rfl, _, hg2, _⟩
    · cases e
    · obtain rfl : g1 = g2 := Option.some.inj e
      rw [hg1] at hg2
      cases hg2
      exact hne rfl
theorem row_far_set {W : World} {B e sz n g : Nat} {v : Value} {xs : List Value} (h : W.ownsRow B e sz v n xs) (hne : v.ownBlock ≠ some g) (i : Nat) (u : Value) : (W.setCell ⟨g, i, none⟩ u).ownsRow B e sz v n xs := by
  refine ⟨h.1, h.2.imp id ?_⟩
  rintro ⟨k, cap, cur, rfl, hb, hh, hrest⟩
  exact ⟨k, cap, cur, rfl, hb, (Below.heap_setCell _ _ _ k (fun e' => hne (by simp only at e'; rw [e']; rfl))).trans hh, hrest⟩
theorem row_block {W : World} {B e sz n g : Nat} {v : Value} {xs : List Value} {cs : Array Value} {t : TypeId} (h : W.ownsRow B e sz v n xs) (hg : W.heap[g]? = some (Obj.cells cs t (0, 0))) (ht : t ≠ e) : v.ownBlock ≠ some g := fun e' => by
  rcases h.2 with ⟨rfl, _⟩ | ⟨k, cap, cur, rfl, _, hh, _⟩
  · cases e'
  · obtain rfl : k = g := Option.some.inj e'
    rw [hh] at hg
    cases hg
    exact ht rfl
/-- Rings of the call's own. -/
def OwnRs (w : World) (l : List PV) (W : World) : Prop := ∀ x ∈ l, W.ownsRow w.heap.size 28 2 (.slice x.A x.par.ring.length x.cap) x.par.ring.length (flatP x.par.ring)
section
variable {w W W' : World} {l : List PV}
theorem OwnRs.on (h : OwnRs w l W) (hb : Below W.heap.size W W') : OwnRs w l W' := fun x hx => row_on (h x hx) hb
theorem OwnRs.set {g : Nat} {cs : Array Value} {t : TypeId} (h : OwnRs w l W) (hg : W.heap[g]? = some (Obj.cells cs t (0, 0))) (ht : t ≠ 28) (i : Nat) (u : Value) : OwnRs w l (W.setCell ⟨g, i, none⟩ u) := fun x hx => row_far_set (h x hx) (row_block (h x hx) hg ht) i u
theorem OwnRs.grow {T : TypeId} {b s n : Nat} {v : Value} {xs : List Value} (h : OwnRs w l W) (hv : W.ownsRow b T s v n xs) (ht : 28 ≠ T) (hg : W.grownBy W' v.ownBlock) : OwnRs w l W' := fun x hx => (h x hx).kept hg (rows_apart (h x hx) hv ht)
theorem OwnRs.alloc (h : OwnRs w l W) (o : Obj) : OwnRs w l (W.alloc o) := h.on ((Below.refl _ W).alloc (Nat.le_refl _) _)
end
theorem RowI.full {α : Type} {T : TypeId} {enc : α → List Value} {n : Nat} {w0 W : World} {A : Option Addr} {m c : Nat} {l : List α} (h : RowI w0 T n enc (.slice A m c) l W) : Items W W.heap.size A enc l ∧ NilOk A c ∧ l.length ≤ c := by
  obtain ⟨A', c', e, hi, hn⟩ := h.items
  obtain ⟨rfl, -, rfl⟩ := Value.slice.inj e
  exact ⟨hi, hn, h.cap⟩
theorem Row.whole {w0 W : World} {A : Option Addr} {m c : Nat} {ps : List (Int × Int)} (h : Row w0 (.slice A m c) ps W) : Pts W W.heap.size A ps ∧ NilOk A c ∧ ps.length ≤ c := by
  obtain ⟨A', c', e, hp, hn, hc⟩ := h.full
  obtain ⟨rfl, -, rfl⟩ := Value.slice.inj e
  exact ⟨hp, hn, hc⟩
theorem Row.base {w w1 W : World} {v : Value} {ps : List (Int × Int)} (h : Row w1 v ps W) (hb : Below w.heap.size w w1) : Row w v ps W :=
  ⟨Below.trans hb (h.1.mono hb.size), h.2.1, h.2.2.imp id (fun ⟨g, cap, cur, e, hg, r⟩ => ⟨g, cap, cur, e, Nat.le_trans hb.size hg, r⟩)⟩

set_option maxRecDepth 100000 in
set_option maxHeartbeats 1000000 in
theorem Own_any (o : List (Int × Int)) (Ao : Option Addr) (co : Nat) (l : List PV) (Ap : Option Addr) (cp : Nat) (hl : l.length ≤ 1000000) (w : World) (h : PlanAt w o Ao co l Ap cp) :
    Calls Tryz.prog 17 #[.agg #[.slice Ao o.length co, .slice Ap l.length cp]] w fun e w' => Below w.heap.size w w' ∧ ∃ A1 c1 l' Ap1 cp1, e = .returned (.agg #[.slice A1 o.length c1, .slice Ap1 l.length cp1]) ∧ l'.map PV.par = l.map PV.par ∧ PlanAt w' o A1 c1 l' Ap1 cp1 := by
  have HPR := Lib.hid (fun W (hb : Below w.heap.size w W) => h.prs.on hb)
  have HPO := Lib.hid (fun W (hb : Below w.heap.size w W) => h.out.on hb)
  have HNI := Lib.hid h.nil
  have HRO := Lib.hid h.room
  have HQ := ((Hold.refl w).new #[.slice Ao o.length co, .slice Ap l.length cp] 26).new' #[.slice none 0 0, .slice none 0 0] 26 (n := w.heap.size + 1) (by simp)
  clear h
  go_enter Tryz.func17, Tryz.ntmps17
  go_upto_region 1 with (fail)
  generalize (World.alloc (World.alloc w _) _) = W1 at HQ ⊢
  generalize w.heap.size + 1 = g2 at HQ ⊢
  obtain ⟨g1, hg1⟩ : ∃ g, w.heap.size = g := ⟨_, rfl⟩
  have HG1 := Lib.hid hg1
  rw [hg1] at HQ ⊢
  clear hg1
  obtain ⟨c0, c1⟩ := HQ.pt (List.mem_cons_of_mem _ List.mem_cons_self)
  have HQX := Lib.hid HQ
  have hz1 := HQX.out.lt (List.mem_cons_of_mem _ List.mem_cons_self)
  have HMD := Lib.hid (Row.made W1 28 rfl)
  clear HQ
  go_upto_region 2 with (at_builtin; go_must (refine append_pts _ Tryz.underlying23 HMD.out o Ao co (HPO.out _ (Below.trans HQX.out.1 (HMD.out.1.mono HQX.out.1.size))) HNI.out (by have := HRO.out; simpa using this) rfl _ _ rfl rfl rfl ?_; rintro v1 W2 HR1; have hq2 := HQX.out.on HR1.1; have hr1 := HR1.base HQX.out.1; rw [List.nil_append] at hr1; obtain ⟨A1, cA, rfl, -, hn1, hc1⟩ := hr1.full; have HN1 := Lib.hid hn1; have HC1 := Lib.hid hc1; have HR2 := Lib.hid hr1; have HQ2 := Lib.hid hq2; clear HR1 hr1 hn1 hc1 hq2))
  clear c0 c1 hz1
  have HQ3 := HQ2.out.new #[.slice A1 o.length cA, .slice none 0 0] 26
  have HR3 := HR2.out.alloc (Obj.cells #[.slice A1 o.length cA, .slice none 0 0] 26 (0, 0))
  generalize (World.alloc _ _) = W3 at HQ3 HR3 ⊢
  generalize W2.heap.size = g3 at HQ3 ⊢
  clear HQX HMD
  obtain ⟨c0, c1⟩ := HQ3.pt (List.mem_cons_of_mem _ (List.mem_cons_of_mem _ List.mem_cons_self))
  have HQY := Lib.hid HQ3
  have HRY := Lib.hid HR3
  clear HQ3 HR3 HR2 HQ2
  go_wp2_with fail
  clear c0 c1
  go_loopg [4] l.length (fun g i wr => ∃ (k : Nat) (v : Value) (l' : List PV), k ≤ l.length ∧ g = l.length - k ∧ i = .int .i64 k ∧ l'.map PV.par = (l.take k).map PV.par ∧ Row w (.slice A1 o.length cA) o wr ∧ RowI w 34 3 encV v l' wr ∧ OwnRs w l' wr ∧ Hold w [(g3, #[.slice A1 o.length cA, v], 26), (g2, #[.slice none 0 0, .slice none 0 0], 26), (g1, #[.slice Ao o.length co, .slice Ap l.length cp], 26)] wr)
  case atStart => exact ⟨0, .slice none 0 0, [], Nat.zero_le _, rfl, rfl, rfl, HRY.out, RowI.nil HRY.out.1, (fun x hx => (by cases hx)), HQY.out⟩
  case round =>
    obtain ⟨k, v, l', hk, hgk, rfl, hmap, HO, HV, HOR, HB⟩ := hrel
    have HGK := Lib.hid hgk
    have HMAP := Lib.hid hmap
    clear hgk hmap
    obtain ⟨c0, c1'⟩ := HB.pt (List.mem_cons_of_mem _ (List.mem_cons_of_mem _ List.mem_cons_self))
    by_cases hlt : k < l.length
    · have hw := HPR.out _ HB.1
      obtain ⟨ad, rfl, -, d0, d1, d2⟩ := hw.at hlt
      obtain ⟨hp, hnil, hsz⟩ := hw.2 l[k] (List.getElem_mem hlt)
      have b0 : (0 : Int) ≤ (k : Int) := by omega
      have b1 : (k : Int) < (l.length : Int) := by omega
      have HMT : Hid ((l.take (k + 1)).map PV.par = (l.take k).map PV.par ++ [l[k].par]) := by
        unfold Hid
        rw [List.take_succ_eq_append_getElem hlt, List.map_append]; rfl
      have HLL : Hid (l'.length ≤ 1000000) := by
        have := congrArg List.length HMAP.out
        rw [List.length_map, List.length_map, List.length_take] at this
        unfold Hid; omega
      have HP := Lib.hid hp
      have HNL := Lib.hid hnil
      have HSZ := Lib.hid hsz
      clear hw hp hnil hsz
      generalize l[k].par = x at *
      generalize l[k].A = Ak at *
      generalize l[k].cap = ck at *
      go_upto_region 6 with (fail)
      have hb1 := (Below.refl wr.heap.size wr).alloc (Nat.le_refl _) (.cells #[.int .i64 x.id, .slice Ak x.ring.length ck, .string x.own] 34 (0, 0))
      have HQ := HB.new #[.int .i64 x.id, .slice Ak x.ring.length ck, .string x.own] 34
      have HP1 := HP.out.on hb1
      have HO1 := HO.on hb1
      have HV1 := HV.on hb1
      have HOR1 := HOR.on hb1
      have HNV := Lib.hid (HV.row_ne (Nat.le_refl _))
      clear HB HP HO HV HOR hb1 d0 d1 d2 c0 c1'
      generalize (World.alloc _ _) = W5 at HQ HP1 HO1 HV1 HOR1 ⊢
      generalize wr.heap.size = g5 at HQ HNV ⊢
      have k1 := HQ.cell (.head _) 1
      simp only [List.getElem?_toArray, List.getElem?_cons_zero, List.getElem?_cons_succ] at k1
      have hz5 := HQ.lt (.head _)
      have HMD := Lib.hid (Row.made W5 28 rfl)
      have HQ5 := Lib.hid HQ
      have HP5 := Lib.hid HP1
      have HO5 := Lib.hid HO1
      have HV5 := Lib.hid HV1
      have HOR5 := Lib.hid HOR1
      clear HQ HP1 HO1 HV1 HOR1
      go_upto_region 7 with (at_builtin; go_must (refine append_pts _ Tryz.underlying23 HMD.out x.ring Ak ck (HP5.out.on HMD.out.1) HNL.out (by have := HSZ.out; simpa using this) rfl _ _ rfl rfl rfl ?_; rintro v6 W6 HR6; rw [List.nil_append] at HR6; have hq6 := HQ5.out.on HR6.1; have hr6 := HR6.base HQ5.out.1; obtain ⟨A6, c6, rfl, -, hn6, hc6⟩ := hr6.full; have k6 := hq6.frozen (.head _) 1; have HN6 := Lib.hid hn6; have HC6 := Lib.hid hc6; have HR7 := Lib.hid hr6; have HQ6 := Lib.hid hq6; have HO6 := Lib.hid (HO5.out.on HR6.1); have HV6 := Lib.hid (HV5.out.on HR6.1); have HOR6 := Lib.hid (HOR5.out.on HR6.1); have k7 := hq6.cell (.head _) 1; clear HR6 hr6 hn6 hc6 hq6))
      clear k1 hz5
      have HQ7 : Hold w [(g5, #[.int .i64 x.id, .slice A6 x.ring.length c6, .string x.own], 34), (g3, #[.slice A1 o.length cA, v], 26), (g2, #[.slice none 0 0, .slice none 0 0], 26), (g1, #[.slice Ao o.length co, .slice (some ad) l.length cp], 26)] (W6.setCell ⟨g5, 1, none⟩ (.slice A6 x.ring.length c6)) := HQ6.out.set 1 (.slice A6 x.ring.length c6)
      have hh5 := (HQ6.out.2.1 _ (.head _)).1
      have HV7 : RowI w 34 3 encV v l' (W6.setCell ⟨g5, 1, none⟩ (.slice A6 x.ring.length c6)) := ⟨HQ7.1, row_far_set HV6.out.2 HNV.out 1 _⟩
      have HO7 : Row w (.slice A1 o.length cA) o (W6.setCell ⟨g5, 1, none⟩ (.slice A6 x.ring.length c6)) := ⟨HQ7.1, row_far_set HO6.out.2 (row_block HO6.out.2 hh5 (show (34 : Nat) ≠ 28 by decide)) 1 _⟩
      have HOR7 := HOR6.out.set hh5 (show (34 : Nat) ≠ 28 by decide) 1 (.slice A6 x.ring.length c6)
      have HNR7 := row_far_set HR7.out.2 (row_block HR7.out.2 hh5 (show (34 : Nat) ≠ 28 by decide)) 1 (.slice A6 x.ring.length c6)
      have HOX : Hid (OwnRs w (l' ++ [⟨x, A6, c6⟩]) (W6.setCell ⟨g5, 1, none⟩ (.slice A6 x.ring.length c6))) := fun y hy => by
        rcases List.mem_append.1 hy with hy | hy
        · exact HOR7 y hy
        · obtain rfl := List.mem_singleton.1 hy
          exact HNR7
      clear hh5 HOR7 HNR7 HV6 HO6 HOR6 HR7 HQ6 HQ5 HP5 HO5 HV5 HOR5 HMD k6 k7
      generalize (World.setCell W6 _ _) = W7 at HQ7 HV7 HO7 HOX ⊢
      have k0 := HQ7.cell (.head _) 0
      have k1 := HQ7.cell (.head _) 1
      have k2 := HQ7.cell (.head _) 2
      have m1 := HQ7.cell (List.mem_cons_of_mem _ List.mem_cons_self) 1
      simp only [List.getElem?_toArray, List.getElem?_cons_zero, List.getElem?_cons_succ] at k0 k1 k2 m1
      have HNG3 := Lib.hid (HV7.apart (HQ7.2.1 _ (List.mem_cons_of_mem _ List.mem_cons_self)).1 (show (26 : Nat) ≠ 34 by decide))
      have HNG2 := Lib.hid (HV7.apart (HQ7.2.1 _ (List.mem_cons_of_mem _ (List.mem_cons_of_mem _ List.mem_cons_self))).1 (show (26 : Nat) ≠ 34 by decide))
      have HNG1 := Lib.hid (HV7.apart (HQ7.2.1 _ (List.mem_cons_of_mem _ (List.mem_cons_of_mem _ (List.mem_cons_of_mem _ List.mem_cons_self)))).1 (show (26 : Nat) ≠ 34 by decide))
      have HV8 := Lib.hid HV7
      have HQ8 := Lib.hid HQ7
      have HO8 := Lib.hid HO7
      clear HV7 HQ7 HO7
      go_wp2_with (at_builtin; go_must (refine append_itemG kindV Tryz.underlying24 HV8.out ⟨x, A6, c6⟩ 34 #[.int .i64 x.id, .slice A6 x.ring.length c6, .string x.own] rfl (by have := HLL.out; unfold maxLen; omega) (by have := HLL.out; omega) rfl _ _ rfl rfl 1 rfl ?_; rintro v9 w9 HR9 hg9; have hq9 := Hold.grow (HQ8.out.alloc (Obj.cells #[.int .i64 x.id, .slice A6 x.ring.length c6, .string x.own] 34 (0, 0))) HR9.1 hg9 (fun e he => by rcases List.mem_cons.1 he with rfl | he; exact HNV.out; rcases List.mem_cons.1 he with rfl | he; exact HNG3.out; rcases List.mem_cons.1 he with rfl | he; exact HNG2.out; rcases List.mem_cons.1 he with rfl | he; exact HNG1.out; cases he); have HX9 := Lib.hid (OwnRs.grow (OwnRs.alloc HOX.out (Obj.cells #[.int .i64 x.id, .slice A6 x.ring.length c6, .string x.own] 34 (0, 0))) (HV8.out.alloc (Obj.cells #[.int .i64 x.id, .slice A6 x.ring.length c6, .string x.own] 34 (0, 0))).2 (show (28 : Nat) ≠ 34 by decide) hg9); have HO9 := Lib.hid (((HO8.out.alloc (Obj.cells #[.int .i64 x.id, .slice A6 x.ring.length c6, .string x.own] 34 (0, 0))).2).kept hg9 (rows_apart (HO8.out.alloc (Obj.cells #[.int .i64 x.id, .slice A6 x.ring.length c6, .string x.own] 34 (0, 0))).2 (HV8.out.alloc (Obj.cells #[.int .i64 x.id, .slice A6 x.ring.length c6, .string x.own] 34 (0, 0))).2 (show (28 : Nat) ≠ 34 by decide))); obtain ⟨A9, c9, hv9, -, -⟩ := HR9.items; have hl9 : (l' ++ [(⟨x, A6, c6⟩ : PV)]).length = l'.length + 1 := (by simp); rw [hl9] at hv9; have HRR := Lib.hid HR9; have z1 := hq9.frozen (List.mem_cons_of_mem _ List.mem_cons_self) 1; have z2 := hq9.cell (List.mem_cons_of_mem _ List.mem_cons_self) 1; have HQ9 := Lib.hid hq9; subst hv9; clear HR9 hg9 hq9 hl9))
      have HQ10 : Hold w [(g3, #[.slice A1 o.length cA, .slice A9 (l'.length + 1) c9], 26), (g2, #[.slice none 0 0, .slice none 0 0], 26), (g1, #[.slice Ao o.length co, .slice (some ad) l.length cp], 26)] _ := HQ9.out.tail.set 1 (.slice A9 (l'.length + 1) c9)
      have hh3 := (HQ9.out.2.1 _ (List.mem_cons_of_mem _ List.mem_cons_self)).1
      have hv10 : RowI w 34 3 encV (.slice A9 (l'.length + 1) c9) (l' ++ [(⟨x, A6, c6⟩ : PV)]) (w9.setCell ⟨g3, 1, none⟩ (.slice A9 (l'.length + 1) c9)) := ⟨HQ10.1, row_far_set HRR.out.2 (row_block HRR.out.2 hh3 (show (26 : Nat) ≠ 34 by decide)) 1 _⟩
      have ho10 : Row w (.slice A1 o.length cA) o (w9.setCell ⟨g3, 1, none⟩ (.slice A9 (l'.length + 1) c9)) := ⟨HQ10.1, row_far_set HO9.out (row_block HO9.out hh3 (show (26 : Nat) ≠ 28 by decide)) 1 _⟩
      have hx10 := HX9.out.set hh3 (show (26 : Nat) ≠ 28 by decide) 1 (.slice A9 (l'.length + 1) c9)
      go_roundg (l.length - (k + 1))
      case measure => have := HGK.out; omega
      case rel => exact ⟨k + 1, _, l' ++ [(⟨x, A6, c6⟩ : PV)], by omega, rfl, by go_num, by rw [HMT.out, List.map_append, HMAP.out]; rfl, ho10, hv10, hx10, HQ10⟩
    · obtain rfl : k = l.length := by omega
      have HMF : Hid (l'.map PV.par = l.map PV.par) := by have := HMAP.out; rwa [List.take_length] at this
      obtain ⟨A9, c9, hv9, -, -⟩ := HV.items
      have hlen : l'.length = l.length := by have := congrArg List.length HMF.out; rwa [List.length_map, List.length_map] at this
      rw [hlen] at hv9
      subst hv9
      obtain ⟨m0, m1⟩ := HB.pt (.head _)
      obtain ⟨y0, y1⟩ := HB.pt (List.mem_cons_of_mem _ List.mem_cons_self)
      obtain ⟨z0, z1⟩ := HB.fz (List.mem_cons_of_mem _ List.mem_cons_self)
      have HBX := Lib.hid HB
      have HVX := Lib.hid HV
      have HOX := Lib.hid HO
      have HRX := Lib.hid HOR
      clear HB HV HO HOR hlen
      go_wp2
      have HE := HBX.out.swap2 (.slice A1 o.length cA) (.slice A9 l.length c9)
      have hh2 := (HBX.out.2.1 _ (List.mem_cons_of_mem _ List.mem_cons_self)).1
      have hh2' := (((Hold.swap HBX.out 0 (.slice A1 o.length cA)).2.1 _ (List.mem_cons_of_mem _ List.mem_cons_self))).1
      have hv : RowI w 34 3 encV (.slice A9 l.length c9) l' ((wr.setCell ⟨g2, 0, none⟩ (.slice A1 o.length cA)).setCell ⟨g2, 1, none⟩ (.slice A9 l.length c9)) := ⟨HE.1, row_far_set (row_far_set HVX.out.2 (row_block HVX.out.2 hh2 (show (26 : Nat) ≠ 34 by decide)) 0 _) (row_block HVX.out.2 hh2 (show (26 : Nat) ≠ 34 by decide)) 1 _⟩
      have ho : Row w (.slice A1 o.length cA) o ((wr.setCell ⟨g2, 0, none⟩ (.slice A1 o.length cA)).setCell ⟨g2, 1, none⟩ (.slice A9 l.length c9)) := ⟨HE.1, row_far_set (row_far_set HOX.out.2 (row_block HOX.out.2 hh2 (show (26 : Nat) ≠ 28 by decide)) 0 _) (row_block HOX.out.2 hh2 (show (26 : Nat) ≠ 28 by decide)) 1 _⟩
      have hrs := (HRX.out.set hh2 (show (26 : Nat) ≠ 28 by decide) 0 (.slice A1 o.length cA)).set hh2' (show (26 : Nat) ≠ 28 by decide) 1 (.slice A9 l.length c9)
      obtain ⟨n0, n1⟩ := HE.pt (List.mem_cons_of_mem _ List.mem_cons_self)
      obtain ⟨i1, i2, i3⟩ := hv.full
      obtain ⟨j1, j2, j3⟩ := ho.whole
      refine bodyPost_ret (v := .agg #[.slice A1 o.length cA, .slice A9 l.length c9]) ?_ rfl ⟨HE.1, A1, cA, l', A9, c9, rfl, HMF.out, ⟨i1, fun x hx => ?_⟩, j1, j2, HRO.out, j3, fun x hx => ?_⟩
      · simp [results, Tryz.results17, go_sem, n0, n1]
      · obtain ⟨r1, r2, r3⟩ := (show Row w (.slice x.A x.par.ring.length x.cap) x.par.ring _ from ⟨HE.1, hrs x hx⟩).whole
        refine ⟨r1, r2, ?_⟩
        have hm : x.par ∈ l.map PV.par := by rw [← HMF.out]; exact List.mem_map.2 ⟨x, hx, rfl⟩
        obtain ⟨y, hy, e⟩ := List.mem_map.1 hm
        rw [← e]
        exact ((HPR.out w (Below.refl _ _)).2 y hy).2.2
      · exact ((show Row w (.slice x.A x.par.ring.length x.cap) x.par.ring _ from ⟨HE.1, hrs x hx⟩).whole).2.2
end Go.Proofs.YtbcmnhbpomjinaaGreat
