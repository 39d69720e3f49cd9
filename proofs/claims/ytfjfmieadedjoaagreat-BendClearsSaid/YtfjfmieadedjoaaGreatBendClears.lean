/- The document's Clear: a ring without a corner. -/
import Derived.Test.YtfjfmieadedjoaaGreatBendMoves
namespace Go.Proofs.YtfjfmieadedjoaaGreat
open Go.RowKit
def lsE (e : (Int × Int) × (Int × Int)) : (Int × Int) × (Int × Int) := if lessB e.2 e.1 = true then bk e else e
theorem step_append_ptsG {w0 W : World} {v : Value} {ps : List (Int × Int)} (T : TypeId) (hT : Tryz.prog.underlying T = some (.slice 28)) (HR : Row w0 v ps W)
  (qs : List (Int × Int)) (ad : Addr) (c : Nat) (hq : Pts W W.heap.size (some ad) qs) (hb : (ps.length + qs.length) * 16 ≤ 140737488355328)
  {ops : Array Oper} {o : Oper} {a : Act} {K : Act → World → Prop} {Q : Exit → Act → World → Prop} {E : Prop} (hgd : o.guard = none) (s x : Operand)
  (ho : o.op = .call { callee := .builtin .append, args := #[s, x], argTypes := #[T, T] })
  (hs : a.eval s = v) (hx : a.eval x = .slice (some ad) qs.length c)
  (h : ∀ v' w', Row w0 v' (ps ++ qs) w' → W.grownBy w' v.ownBlock → K (a.put o.dst v') w') :
  if Region.wanted o (yielded ops a.tmps) = true then Oper.wp Tryz.prog o a W K Q else E := by
 have hw : Region.wanted o (yielded ops a.tmps) = true := by simp [Region.wanted, hgd]
 rw [if_pos hw]
 obtain ⟨i0, hi, hz0, hz1, hz2⟩ := info_parts infoP
 refine wp_append_own W s x T ho w0.heap.size 28 i0 (.agg #[.int .i64 0, .int .i64 0]) 2 16 hT hi hz0 hz1 hz2 rfl (by decide) v ps.length (flatP ps) hs HR.2 ad qs.length c (flatP qs) hx (flatP_length qs) (flatP_cells hq) (flatP_one qs) (by unfold maxLen; omega) hb HR.1.size ?_
 intro v' w' hown hgrow _
 refine h v' w' ⟨grownB HR.1 (Nat.le_refl _) hgrow (fun k hk => (HR.2.lt k hk).1), ?_⟩ hgrow
 rw [List.length_append, flatP_append]
 exact hown
theorem Row.set4 {w W : World} {v : Value} {ps : List (Int × Int)} (h : Row w v ps W) {g : Nat} {cs : Array Value} (hh : W.heap[g]? = some (.cells cs 59 (0, 0))) (y0 y1 y2 y3 : Value) (hB : Below w.heap.size w ((((W.setCell ⟨g, 0, none⟩ y0).setCell ⟨g, 1, none⟩ y1).setCell ⟨g, 2, none⟩ y2).setCell ⟨g, 3, none⟩ y3)) : Row w v ps ((((W.setCell ⟨g, 0, none⟩ y0).setCell ⟨g, 1, none⟩ y1).setCell ⟨g, 2, none⟩ y2).setCell ⟨g, 3, none⟩ y3) := by
 have hne := row_block h.2 hh (show (59 : Nat) ≠ 28 by decide)
 exact ⟨hB, row_far_set (row_far_set (row_far_set (row_far_set h.2 hne 0 y0) hne 1 y1) hne 2 y2) hne 3 y3⟩
theorem edge_grow {w W W' : World} {v v' : Value} {ps ps' : List (Int × Int)} {g8 g5 : Nat} {a b : Array Value} (hq : Hold w [(g8, a, 59), (g5, b, 59)] W) (hr : Row w v ps W) (hr' : Row w v' ps' W') (hg : W.grownBy W' v.ownBlock) : Hold w [(g8, a, 59), (g5, b, 59)] W' := Hold.grow hq hr'.1 hg fun e he => row_block hr.2 (hq.2.1 e he).1 (by
 rcases List.mem_cons.1 he with rfl | he
 ·exact (show (59 : Nat) ≠ 28 by decide)
 ·rcases List.mem_cons.1 he with rfl | he
  ·exact (show (59 : Nat) ≠ 28 by decide)
  ·cases he)
set_option maxRecDepth 100000 in
set_option maxHeartbeats 8000000 in
theorem ref_cleared (ps : List (Int × Int)) (ad : Addr) (cap : Nat) (p : Int × Int) (hm : p ∈ ps) (hg : gdL ps = true) (hn : ps.length ≤ 1000) (hcap : ps.length ≤ cap) (w : World) (hr : Pts w w.heap.size (some ad) ps) :
  Calls Tryz.prog 39 #[.slice (some ad) ps.length cap, .int .i64 (posL ps p : Nat)] w fun e w' => ∃ v, e = .returned (.tuple #[v, .agg #[.int .i64 (lsE (bsR ps p)).1.1, .int .i64 (lsE (bsR ps p)).1.2, .int .i64 (lsE (bsR ps p)).2.1, .int .i64 (lsE (bsR ps p)).2.2], .bool (onB (pvR ps p) (scR ps p) p)]) ∧ Row w v (repL ps p []) w' := by
 have hk := posL_lt hm
 obtain ⟨j1, hj1, ek1, ek2, ek3⟩ := prev_place hk
 obtain ⟨j2, hj2, em1, em2, em3⟩ := next_place hk
 have HR := Lib.hid (fun K W (h : Hold w K W) => hr.on h.1)
 have HFX : Hid (∀ K W, Hold w K W → (W.cell? (ad.add (j1 * 2)) = some (.int .i64 (pvR ps p).1) ∧ W.cell? ⟨(ad.add (j1 * 2)).block, (ad.add (j1 * 2)).off + 1, none⟩ = some (.int .i64 (pvR ps p).2)) ∧ (W.cell? (ad.add (j2 * 2)) = some (.int .i64 (scR ps p).1) ∧ W.cell? ⟨(ad.add (j2 * 2)).block, (ad.add (j2 * 2)).off + 1, none⟩ = some (.int .i64 (scR ps p).2)) ∧ W.cell? (ad.add (posL ps p * 2)) = some (.int .i64 p.1) ∧ W.cell? ⟨(ad.add (posL ps p * 2)).block, (ad.add (posL ps p * 2)).off + 1, none⟩ = some (.int .i64 p.2)) := fun K W h => by
  obtain ⟨a1, e1, F1⟩ := hr.fp hj1 ek1
  obtain rfl := Option.some.inj e1
  obtain ⟨a2, e2, F2⟩ := hr.fp hj2 em1
  obtain rfl := Option.some.inj e2
  obtain ⟨a3, e3, F3⟩ := hr.fp hk (Nat.mod_eq_of_lt hk)
  obtain rfl := Option.some.inj e3
  rw [pos_nx hm] at F3
  exact ⟨h.fp F1, h.fp F2, h.fp F3⟩
 have h0 : 0 < ps.length := by omega
 have HON := Lib.hid (fun W => ref_on (pvR ps p) (scR ps p) p (nx_gd hg h0 _) (nx_gd hg h0 _) (gdL_iff.1 hg p hm) W)
 have HE := Lib.hid (repL_in (qs := []) hm)
 have HQ := (Hold.refl w).new #[.int .i64 0, .int .i64 0, .int .i64 0, .int .i64 0] 59
 rw [List.append_nil] at HE
 obtain ⟨ee, hee⟩ : ∃ e, lsE (bsR ps p) = e := ⟨_, rfl⟩
 have HEE : Hid ((if lessB (scR ps p) (pvR ps p) = true then (scR ps p, pvR ps p) else (pvR ps p, scR ps p)) = ee) := hee
 rw [hee]
 clear hr hm hg ek1 em1 hee
 generalize repL ps p [] = rr at *
 generalize pvR ps p = a at *
 generalize scR ps p = b at *
 generalize posL ps p = k at *
 generalize onB a b p = ob at *
 obtain ⟨kn, hkn⟩ : ∃ n, k + 1 = n := ⟨_, rfl⟩
 rw [hkn] at HE
 have b0 : (0 : Int) ≤ (k : Int) := by omega
 have b1 : (k : Int) < (ps.length : Int) := by omega
 have b2 : (k : Int) ≤ (ps.length : Int) := by omega
 have b3 : (k : Int) ≤ (cap : Int) := by omega
 have b4 : IntKind.i64.wrap ((k : Int) + 1) = (kn : Int) := by rw [IntKind.wrap_i64]; omega
 have b5 : IntKind.i64.wrap ((k : Int) + (ps.length : Int)) = (k : Int) + (ps.length : Int) := wrap_in (by omega) (by omega)
 have b6 : IntKind.i64.wrap ((k : Int) + (ps.length : Int) - 1) = (k : Int) + (ps.length : Int) - 1 := wrap_in (by omega) (by omega)
 have em4 : (kn : Int).tmod (ps.length : Int) = (j2 : Int) := by rw [← em3]; congr 1; omega
 have em5 : (kn : Int) % (ps.length : Int) = (j2 : Int) := by rw [← em2]; congr 1; omega
 have b7 : (0 : Int) ≤ (j1 : Int) := by omega
 have b8 : (j1 : Int) < (ps.length : Int) := by omega
 have b9 : (0 : Int) ≤ (j2 : Int) := by omega
 have b10 : (j2 : Int) < (ps.length : Int) := by omega
 have k2 : (0 : Int) ≤ (kn : Int) := by omega
 have k3 : (kn : Int) ≤ (ps.length : Int) := by omega
 have k4 : (kn : Int) ≤ (cap : Int) := by omega
 have k5 : (ps.length : Int) ≤ (cap : Int) := by omega
 have k6 : kn ≤ ps.length := by omega
 have k7 : kn ≤ cap := by omega
 have k10 : k ≤ ps.length := by omega
 have k11 : k ≤ cap := by omega
 have z1 : ((ps.length : Int) == 0) = false := by rw [beq_eq_false_iff_ne]; omega
 have z2 : ¬ (ps.length : Int) = 0 := by omega
 have z7 : ¬ ps.length = 0 := by omega
 have z8 : ¬ ps = [] := fun e => z7 (by rw [e]; rfl)
 go_enter Tryz.func39, Tryz.ntmps39
 go_upto_region 1 with (fail)
 generalize (World.alloc _ _) = W1 at HQ ⊢
 generalize w.heap.size = g5 at HQ ⊢
 go_upto_region 2 with (fail)
 go_cut [8] (fun s8 wx => ∃ g8, s8 = .pointer (some ⟨g8, 0, none⟩) ∧ Hold w [(g8, #[.int .i64 (a, b).1.1, .int .i64 (a, b).1.2, .int .i64 (a, b).2.1, .int .i64 (a, b).2.2], 59), (g5, #[.int .i64 0, .int .i64 0, .int .i64 0, .int .i64 0], 59)] wx)
 case first =>
  have q0 : ∀ (cs : Array Value) (t : TypeId), Hold w [(g5, #[.int .i64 0, .int .i64 0, .int .i64 0, .int .i64 0], 59)] (W1.alloc (Obj.cells cs t (0, 0))) := fun cs t => HQ.on ((Below.refl _ W1).alloc (Nat.le_refl _) _)
  obtain ⟨⟨x0, x1⟩, ⟨x2, x3⟩, -⟩ := HFX.out _ _ HQ
  have p0 := fun cs t => (HFX.out _ _ (q0 cs t)).1.1
  have p1 := fun cs t => (HFX.out _ _ (q0 cs t)).1.2
  have p2 := fun cs t => (HFX.out _ _ (q0 cs t)).2.1.1
  have p3 := fun cs t => (HFX.out _ _ (q0 cs t)).2.1.2
  clear q0 HON HE HEE HR
  go_region
  all_goals (go_wp2_with fail)
  all_goals go_meet
  all_goals exact ⟨_, rfl, (HQ.new #[.int .i64 (a, b).1.1, .int .i64 (a, b).1.2, .int .i64 (a, b).2.1, .int .i64 (a, b).2.2] 59).drew⟩
 case rest =>
  obtain ⟨g8, rfl, hq⟩ := hcut
  generalize wc = W2 at *
  have HQ2 := Lib.hid hq
  have HKS : Hid (∀ W, Below W2.heap.size W2 W → (W.cell? ⟨g8, 0, none⟩ = some (.int .i64 a.1) ∧ W.cell? ⟨g8, 1, none⟩ = some (.int .i64 a.2) ∧ W.cell? ⟨g8, 2, none⟩ = some (.int .i64 b.1) ∧ W.cell? ⟨g8, 3, none⟩ = some (.int .i64 b.2)) ∧ W.cell? (ad.add (k * 2)) = some (.int .i64 p.1) ∧ W.cell? ⟨(ad.add (k * 2)).block, (ad.add (k * 2)).off + 1, none⟩ = some (.int .i64 p.2)) := fun W hb => by
   have h := HQ2.out.on hb
   exact ⟨h.q4 (.head _), (HFX.out _ _ h).2.2⟩
  have HBR := Lib.hid (Below.refl W2.heap.size W2)
  have HBD : Hid (Below W2.heap.size W2 W2.drew) := ⟨rfl, rfl, rfl, Nat.le_refl _, fun _ _ => rfl⟩
  clear HQ hq
  go_upto_region 3 with (fail)
  go_cut [9] (fun s9 wx => s9 = .bool ob ∧ Hold w [(g8, #[.int .i64 (a, b).1.1, .int .i64 (a, b).1.2, .int .i64 (a, b).2.1, .int .i64 (a, b).2.2], 59), (g5, #[.int .i64 0, .int .i64 0, .int .i64 0, .int .i64 0], 59)] wx)
  case first =>
   clear HE HEE HR HFX
   go_region_held3 (fun W => (W.cell? ⟨g8, 0, none⟩ = some (.int .i64 a.1) ∧ W.cell? ⟨g8, 1, none⟩ = some (.int .i64 a.2) ∧ W.cell? ⟨g8, 2, none⟩ = some (.int .i64 b.1) ∧ W.cell? ⟨g8, 3, none⟩ = some (.int .i64 b.2)) ∧ W.cell? (ad.add (k * 2)) = some (.int .i64 p.1) ∧ W.cell? ⟨(ad.add (k * 2)).block, (ad.add (k * 2)).off + 1, none⟩ = some (.int .i64 p.2)) (first | exact HKS.out _ HBR.out | exact HKS.out _ HBD.out | exact HKS.out _ (Hid.out (by assumption))) ((first
    |(go_at_call 52; (with_reducible refine (HON.out _).mono ?_); rintro e' Wi ⟨rfl, hBi⟩; have HBI : Hid (Below W2.heap.size W2 Wi) := (by first | exact HBD.out.trans (hBi.mono HBD.out.size) | exact HBR.out.trans (hBi.mono HBR.out.size)))))
   all_goals (go_wp2_with fail)
   all_goals go_meet
   all_goals exact ⟨rfl, HQ2.out.on HBI.out⟩
  case rest =>
   obtain ⟨rfl, hq⟩ := hcut
   generalize wc = W3 at *
   clear HQ2 HKS HBR HBD HON HFX em2 em3 em4 em5 ek2 ek3
   obtain ⟨c0, c1, c2, c3⟩ := hq.q4 (.head _)
   have HQ3 := Lib.hid hq
   clear hq
   go_wp2_with fail
   go_at_call 66
   refine (ref_less b a _).mono ?_
   rintro e' W4 ⟨rfl, hB⟩
   have hq := HQ3.out.on hB
   clear c0 c1 c2 c3 hB HQ3
   cases hl : lessB b a
   ·rw [hl, if_neg (by decide)] at HEE
    have hea : ee = (a, b) := HEE.out.symm
    have HQ5 : Hid (Hold w [(g8, #[.int .i64 ee.1.1, .int .i64 ee.1.2, .int .i64 ee.2.1, .int .i64 ee.2.2], 59), (g5, #[.int .i64 0, .int .i64 0, .int .i64 0, .int .i64 0], 59)] W4) := by rw [hea]; exact hq
    clear hq hl hea HEE
    have HMD := Lib.hid (Row.made W4 28 rfl)
    go_upto_region 7 with (at_builtin; go_must (refine append_pts _ Tryz.underlying23 HMD.out (ps.take k) (some ad) cap (Pts.take k (HR.out _ _ (HQ5.out.on HMD.out.1))) (fun e => by cases e) (by rw [List.length_take]; simp; omega) rfl _ _ rfl rfl (by rw [List.length_take, Nat.min_eq_left k10]; rfl) ?_; rintro v6 W6 HR6; rw [List.nil_append] at HR6; have HQ10 := Lib.hid ((HQ5.out.on HR6.1).drew); have HR10 := Lib.hid ((HR6.base HQ5.out.1).drew); clear HR6))
    clear HMD HQ5
    by_cases hc : cap = kn
    ·have k8 : ¬ kn < cap := by omega
     refine wp_region_held_drew (S := (fun W => W.cell? ⟨g8, 0, none⟩ = some (.int .i64 ee.1.1) ∧ W.cell? ⟨g8, 1, none⟩ = some (.int .i64 ee.1.2) ∧ W.cell? ⟨g8, 2, none⟩ = some (.int .i64 ee.2.1) ∧ W.cell? ⟨g8, 3, none⟩ = some (.int .i64 ee.2.2))) (by kernel_rfl) ?_ (fun hHeld => ?_)
     ·(try dsimp only)
      exact HQ10.out.q4 (.head _)
     refine tZ 0 ?_; refine tZ 1 ?_; refine tZ 2 ?_; refine tZ 3 ?_; refine tZ 4 ?_; refine tZ 6 ?_; refine tZ 7 ?_
     refine wpAnyH_ready (rs := [5]) (by decide +kernel) (by simp) ?_
     refine AllReadyH.cons rfl (fun K hK => ?_) AllReadyH.nil
     refine step_append_ptsG 23 Tryz.underlying23 HR10.out (ps.drop kn) (ad) (0) ((fun (_ : Below w.heap.size w _) => by rw [List.drop_eq_nil_of_le (by omega)]; exact Pts.none _ _ _) HQ10.out.1) (by rw [List.length_take, List.length_drop]; omega) rfl _ _ (by rfl) (by rfl) (by rw [List.length_drop]; rfl) ?_
     rintro v7 W7 HR7 hg7
     have HQ11 := Lib.hid (edge_grow HQ10.out HR10.out HR7 hg7)
     have HR11 := Lib.hid HR7
     clear HR7 hg7
     refine hK.out _ _ ?_ (fun hHeld => ?_)
     focus ((try dsimp only); exact HQ11.out.q4 (.head _); done)
     clear hK K
     (try simp only [Act.put, jA, jB, jC, jD, jE, jF])
     refine tZ 8 ?_
     refine wpAnyH_ready (rs := [9]) (by decide +kernel) (by simp) ?_
     refine AllReadyH.cons rfl (fun K hK => ?_) AllReadyH.nil
     obtain ⟨f0, f1, f2, f3⟩ := HQ11.out.z4 (.tail _ (.head _))
     obtain ⟨c0, c1, c2, c3⟩ := HQ11.out.q4 (.tail _ (.head _))
     (try simp only [jA, jB, jC])
     go_simp
     have HQ12 := Lib.hid (Hold.set4 (L1 := [_]) HQ11.out (.int .i64 ee.1.1) (.int .i64 ee.1.2) (.int .i64 ee.2.1) (.int .i64 ee.2.2))
     have HR12 := Lib.hid (Row.set4 HR11.out (HQ11.out.2.1 _ (.tail _ (.head _))).1 _ _ _ _ HQ12.out.1)
     clear f0 f1 f2 f3 c0 c1 c2 c3
     refine hK.out _ _ ?_ (fun hHeld => ?_)
     focus ((try dsimp only); exact HQ12.out.q4 (.head _); done)
     clear hK K
     (try simp only [Act.put, jA, jB, jC, jD, jE, jF])
     refine tZ 10 ?_
     refine wpAnyH_done (by decide +kernel) ?_ _
     obtain ⟨n0, n1, n2, n3⟩ := HQ12.out.q4 (.tail _ (.head _))
     go_wp2
     refine bodyPost_ret (v := .tuple #[v7, .agg #[.int .i64 ee.1.1, .int .i64 ee.1.2, .int .i64 ee.2.1, .int .i64 ee.2.2], .bool ob]) ?_ rfl ⟨v7, rfl, by rw [HE.out]; exact HR12.out⟩
     simp [results, Tryz.results39, go_sem, n0, n1, n2, n3]
    ·have k8 : kn < cap := by omega
     have k9 : ¬ cap = kn := by omega
     refine wp_region_held_drew (S := (fun W => W.cell? ⟨g8, 0, none⟩ = some (.int .i64 ee.1.1) ∧ W.cell? ⟨g8, 1, none⟩ = some (.int .i64 ee.1.2) ∧ W.cell? ⟨g8, 2, none⟩ = some (.int .i64 ee.2.1) ∧ W.cell? ⟨g8, 3, none⟩ = some (.int .i64 ee.2.2))) (by kernel_rfl) ?_ (fun hHeld => ?_)
     ·(try dsimp only)
      exact HQ10.out.q4 (.head _)
     refine tZ 0 ?_; refine tZ 1 ?_; refine tZ 2 ?_; refine tZ 3 ?_; refine tZ 4 ?_; refine tZ 6 ?_; refine tZ 7 ?_
     refine wpAnyH_ready (rs := [5]) (by decide +kernel) (by simp) ?_
     refine AllReadyH.cons rfl (fun K hK => ?_) AllReadyH.nil
     refine step_append_ptsG 23 Tryz.underlying23 HR10.out (ps.drop kn) (ad.add (kn * 2)) (cap - kn) (Pts.dropAll (HR.out [] _ ⟨HQ10.out.1, fun _ h => (by cases h), List.Pairwise.nil⟩) (fun _ => rfl)) (by rw [List.length_take, List.length_drop]; omega) rfl _ _ (by rfl) (by rfl) (by rw [List.length_drop]; rfl) ?_
     rintro v7 W7 HR7 hg7
     have HQ11 := Lib.hid (edge_grow HQ10.out HR10.out HR7 hg7)
     have HR11 := Lib.hid HR7
     clear HR7 hg7
     refine hK.out _ _ ?_ (fun hHeld => ?_)
     focus ((try dsimp only); exact HQ11.out.q4 (.head _); done)
     clear hK K
     (try simp only [Act.put, jA, jB, jC, jD, jE, jF])
     refine tZ 8 ?_
     refine wpAnyH_ready (rs := [9]) (by decide +kernel) (by simp) ?_
     refine AllReadyH.cons rfl (fun K hK => ?_) AllReadyH.nil
     obtain ⟨f0, f1, f2, f3⟩ := HQ11.out.z4 (.tail _ (.head _))
     obtain ⟨c0, c1, c2, c3⟩ := HQ11.out.q4 (.tail _ (.head _))
     (try simp only [jA, jB, jC])
     go_simp
     have HQ12 := Lib.hid (Hold.set4 (L1 := [_]) HQ11.out (.int .i64 ee.1.1) (.int .i64 ee.1.2) (.int .i64 ee.2.1) (.int .i64 ee.2.2))
     have HR12 := Lib.hid (Row.set4 HR11.out (HQ11.out.2.1 _ (.tail _ (.head _))).1 _ _ _ _ HQ12.out.1)
     clear f0 f1 f2 f3 c0 c1 c2 c3
     refine hK.out _ _ ?_ (fun hHeld => ?_)
     focus ((try dsimp only); exact HQ12.out.q4 (.head _); done)
     clear hK K
     (try simp only [Act.put, jA, jB, jC, jD, jE, jF])
     refine tZ 10 ?_
     refine wpAnyH_done (by decide +kernel) ?_ _
     obtain ⟨n0, n1, n2, n3⟩ := HQ12.out.q4 (.tail _ (.head _))
     go_wp2
     refine bodyPost_ret (v := .tuple #[v7, .agg #[.int .i64 ee.1.1, .int .i64 ee.1.2, .int .i64 ee.2.1, .int .i64 ee.2.2], .bool ob]) ?_ rfl ⟨v7, rfl, by rw [HE.out]; exact HR12.out⟩
     simp [results, Tryz.results39, go_sem, n0, n1, n2, n3]
   ·rw [hl, if_pos rfl] at HEE
    obtain ⟨c0, c1, c2, c3⟩ := hq.q4 (.head _)
    have HQ4 := Lib.hid hq
    clear hq hl
    go_wp2_with fail
    go_at_call 45
    refine (ref_back (a, b) _).mono ?_
    rintro e' W5 ⟨rfl, hB⟩
    have hq := HQ4.out.on hB
    clear c0 c1 c2 c3 hB HQ4
    obtain ⟨c0, c1, c2, c3⟩ := hq.q4 (.head _)
    obtain ⟨f0, f1, f2, f3⟩ := hq.z4 (.head _)
    have hea : ee = bk (a, b) := HEE.out.symm
    have hq5 := Hold.set4 (L1 := []) hq (.int .i64 (bk (a, b)).1.1) (.int .i64 (bk (a, b)).1.2) (.int .i64 (bk (a, b)).2.1) (.int .i64 (bk (a, b)).2.2)
    clear HEE
    go_upto_region 6 with (fail)
    generalize (World.setCell _ _ _) = W6x at hq5 ⊢
    have HQ5 : Hid (Hold w [(g8, #[.int .i64 ee.1.1, .int .i64 ee.1.2, .int .i64 ee.2.1, .int .i64 ee.2.2], 59), (g5, #[.int .i64 0, .int .i64 0, .int .i64 0, .int .i64 0], 59)] W6x) := by rw [hea]; exact hq5
    clear hq5 hq hea c0 c1 c2 c3 f0 f1 f2 f3
    have HMD := Lib.hid (Row.made W6x 28 rfl)
    go_upto_region 7 with (at_builtin; go_must (refine append_pts _ Tryz.underlying23 HMD.out (ps.take k) (some ad) cap (Pts.take k (HR.out _ _ (HQ5.out.on HMD.out.1))) (fun e => by cases e) (by rw [List.length_take]; simp; omega) rfl _ _ rfl rfl (by rw [List.length_take, Nat.min_eq_left k10]; rfl) ?_; rintro v6 W6 HR6; rw [List.nil_append] at HR6; have HQ10 := Lib.hid ((HQ5.out.on HR6.1).drew); have HR10 := Lib.hid ((HR6.base HQ5.out.1).drew); clear HR6))
    clear HMD HQ5
    by_cases hc : cap = kn
    ·have k8 : ¬ kn < cap := by omega
     refine wp_region_held_drew (S := (fun W => W.cell? ⟨g8, 0, none⟩ = some (.int .i64 ee.1.1) ∧ W.cell? ⟨g8, 1, none⟩ = some (.int .i64 ee.1.2) ∧ W.cell? ⟨g8, 2, none⟩ = some (.int .i64 ee.2.1) ∧ W.cell? ⟨g8, 3, none⟩ = some (.int .i64 ee.2.2))) (by kernel_rfl) ?_ (fun hHeld => ?_)
     ·(try dsimp only)
      exact HQ10.out.q4 (.head _)
     refine tZ 0 ?_; refine tZ 1 ?_; refine tZ 2 ?_; refine tZ 3 ?_; refine tZ 4 ?_; refine tZ 6 ?_; refine tZ 7 ?_
     refine wpAnyH_ready (rs := [5]) (by decide +kernel) (by simp) ?_
     refine AllReadyH.cons rfl (fun K hK => ?_) AllReadyH.nil
     refine step_append_ptsG 23 Tryz.underlying23 HR10.out (ps.drop kn) (ad) (0) ((fun (_ : Below w.heap.size w _) => by rw [List.drop_eq_nil_of_le (by omega)]; exact Pts.none _ _ _) HQ10.out.1) (by rw [List.length_take, List.length_drop]; omega) rfl _ _ (by rfl) (by rfl) (by rw [List.length_drop]; rfl) ?_
     rintro v7 W7 HR7 hg7
     have HQ11 := Lib.hid (edge_grow HQ10.out HR10.out HR7 hg7)
     have HR11 := Lib.hid HR7
     clear HR7 hg7
     refine hK.out _ _ ?_ (fun hHeld => ?_)
     focus ((try dsimp only); exact HQ11.out.q4 (.head _); done)
     clear hK K
     (try simp only [Act.put, jA, jB, jC, jD, jE, jF])
     refine tZ 8 ?_
     refine wpAnyH_ready (rs := [9]) (by decide +kernel) (by simp) ?_
     refine AllReadyH.cons rfl (fun K hK => ?_) AllReadyH.nil
     obtain ⟨f0, f1, f2, f3⟩ := HQ11.out.z4 (.tail _ (.head _))
     obtain ⟨c0, c1, c2, c3⟩ := HQ11.out.q4 (.tail _ (.head _))
     (try simp only [jA, jB, jC])
     go_simp
     have HQ12 := Lib.hid (Hold.set4 (L1 := [_]) HQ11.out (.int .i64 ee.1.1) (.int .i64 ee.1.2) (.int .i64 ee.2.1) (.int .i64 ee.2.2))
     have HR12 := Lib.hid (Row.set4 HR11.out (HQ11.out.2.1 _ (.tail _ (.head _))).1 _ _ _ _ HQ12.out.1)
     clear f0 f1 f2 f3 c0 c1 c2 c3
     refine hK.out _ _ ?_ (fun hHeld => ?_)
     focus ((try dsimp only); exact HQ12.out.q4 (.head _); done)
     clear hK K
     (try simp only [Act.put, jA, jB, jC, jD, jE, jF])
     refine tZ 10 ?_
     refine wpAnyH_done (by decide +kernel) ?_ _
     obtain ⟨n0, n1, n2, n3⟩ := HQ12.out.q4 (.tail _ (.head _))
     go_wp2
     refine bodyPost_ret (v := .tuple #[v7, .agg #[.int .i64 ee.1.1, .int .i64 ee.1.2, .int .i64 ee.2.1, .int .i64 ee.2.2], .bool ob]) ?_ rfl ⟨v7, rfl, by rw [HE.out]; exact HR12.out⟩
     simp [results, Tryz.results39, go_sem, n0, n1, n2, n3]
    ·have k8 : kn < cap := by omega
     have k9 : ¬ cap = kn := by omega
     refine wp_region_held_drew (S := (fun W => W.cell? ⟨g8, 0, none⟩ = some (.int .i64 ee.1.1) ∧ W.cell? ⟨g8, 1, none⟩ = some (.int .i64 ee.1.2) ∧ W.cell? ⟨g8, 2, none⟩ = some (.int .i64 ee.2.1) ∧ W.cell? ⟨g8, 3, none⟩ = some (.int .i64 ee.2.2))) (by kernel_rfl) ?_ (fun hHeld => ?_)
     ·(try dsimp only)
      exact HQ10.out.q4 (.head _)
     refine tZ 0 ?_; refine tZ 1 ?_; refine tZ 2 ?_; refine tZ 3 ?_; refine tZ 4 ?_; refine tZ 6 ?_; refine tZ 7 ?_
     refine wpAnyH_ready (rs := [5]) (by decide +kernel) (by simp) ?_
     refine AllReadyH.cons rfl (fun K hK => ?_) AllReadyH.nil
     refine step_append_ptsG 23 Tryz.underlying23 HR10.out (ps.drop kn) (ad.add (kn * 2)) (cap - kn) (Pts.dropAll (HR.out [] _ ⟨HQ10.out.1, fun _ h => (by cases h), List.Pairwise.nil⟩) (fun _ => rfl)) (by rw [List.length_take, List.length_drop]; omega) rfl _ _ (by rfl) (by rfl) (by rw [List.length_drop]; rfl) ?_
     rintro v7 W7 HR7 hg7
     have HQ11 := Lib.hid (edge_grow HQ10.out HR10.out HR7 hg7)
     have HR11 := Lib.hid HR7
     clear HR7 hg7
     refine hK.out _ _ ?_ (fun hHeld => ?_)
     focus ((try dsimp only); exact HQ11.out.q4 (.head _); done)
     clear hK K
     (try simp only [Act.put, jA, jB, jC, jD, jE, jF])
     refine tZ 8 ?_
     refine wpAnyH_ready (rs := [9]) (by decide +kernel) (by simp) ?_
     refine AllReadyH.cons rfl (fun K hK => ?_) AllReadyH.nil
     obtain ⟨f0, f1, f2, f3⟩ := HQ11.out.z4 (.tail _ (.head _))
     obtain ⟨c0, c1, c2, c3⟩ := HQ11.out.q4 (.tail _ (.head _))
     (try simp only [jA, jB, jC])
     go_simp
     have HQ12 := Lib.hid (Hold.set4 (L1 := [_]) HQ11.out (.int .i64 ee.1.1) (.int .i64 ee.1.2) (.int .i64 ee.2.1) (.int .i64 ee.2.2))
     have HR12 := Lib.hid (Row.set4 HR11.out (HQ11.out.2.1 _ (.tail _ (.head _))).1 _ _ _ _ HQ12.out.1)
     clear f0 f1 f2 f3 c0 c1 c2 c3
     refine hK.out _ _ ?_ (fun hHeld => ?_)
     focus ((try dsimp only); exact HQ12.out.q4 (.head _); done)
     clear hK K
     (try simp only [Act.put, jA, jB, jC, jD, jE, jF])
     refine tZ 10 ?_
     refine wpAnyH_done (by decide +kernel) ?_ _
     obtain ⟨n0, n1, n2, n3⟩ := HQ12.out.q4 (.tail _ (.head _))
     go_wp2
     refine bodyPost_ret (v := .tuple #[v7, .agg #[.int .i64 ee.1.1, .int .i64 ee.1.2, .int .i64 ee.2.1, .int .i64 ee.2.2], .bool ob]) ?_ rfl ⟨v7, rfl, by rw [HE.out]; exact HR12.out⟩
     simp [results, Tryz.results39, go_sem, n0, n1, n2, n3]
end Go.Proofs.YtfjfmieadedjoaaGreat

namespace Go.Proofs.YtfjfmieadedjoaaGreat
open Go.RowKit
theorem lsE_bk (e : (Int × Int) × (Int × Int)) : lsE (bk e) = lsE e := by
 obtain ⟨⟨a, b⟩, c, d⟩ := e
 unfold lsE bk
 by_cases h1 : lessB (c, d) (a, b) = true
 ·by_cases h2 : lessB (a, b) (c, d) = true
  ·exfalso
   unfold lessB at h1 h2
   simp only [Bool.or_eq_true, Bool.and_eq_true, decide_eq_true_eq] at h1 h2
   omega
  ·simp only [if_pos h1, if_neg h2]
 ·by_cases h2 : lessB (a, b) (c, d) = true
  ·simp only [if_neg h1, if_pos h2]
  ·have : a = c ∧ b = d := by
    unfold lessB at h1 h2
    simp only [Bool.or_eq_true, Bool.and_eq_true, decide_eq_true_eq] at h1 h2
    omega
   obtain ⟨rfl, rfl⟩ := this
   simp only [if_neg h1]
theorem lsE_eq {e f : (Int × Int) × (Int × Int)} (h : lsE e = lsE f) : e = f ∨ e = bk f := by
 have key : ∀ x, lsE x = x ∨ lsE x = bk x := fun x => by
  unfold lsE
  split
  ·exact .inr rfl
  ·exact .inl rfl
 have bb : ∀ x, bk (bk x) = x := fun x => rfl
 rcases key e with h1 | h1 <;> rcases key f with h2 | h2 <;> rw [h1, h2] at h
 ·exact .inl h
 ·exact .inr h
 ·right; rw [← h]; rfl
 ·left; rw [← bb e, h]; rfl
def SeenP (L : List (List (Int × Int))) (p : Int × Int) (sn : List ((Int × Int) × (Int × Int))) : Prop :=
 sn.length ≤ L.length ∧ (∀ r ∈ L, p ∈ r → onB (pvR r p) (scR r p) p = true ∧ sn[0]? = some (lsE (bsR r p))) ∧ ∀ s, sn[0]? = some s → ∃ r ∈ L, p ∈ r ∧ s = lsE (bsR r p)
theorem SeenP.nil (p : Int × Int) : SeenP [] p [] := ⟨Nat.le_refl _, fun _ h => (by cases h), fun _ h => (by cases h)⟩
theorem SeenP.out {L : List (List (Int × Int))} {p : Int × Int} {sn : List ((Int × Int) × (Int × Int))} (h : SeenP L p sn) {r : List (Int × Int)} (hp : p ∉ r) : SeenP (L ++ [r]) p sn := by
 refine ⟨by have := h.1; rw [List.length_append]; omega, fun s hs hps => ?_, fun s hs => ?_⟩
 ·rcases List.mem_append.1 hs with hs | hs
  ·exact h.2.1 s hs hps
  ·obtain rfl := List.mem_singleton.1 hs
   exact absurd hps hp
 ·obtain ⟨r', hr', h1⟩ := h.2.2 s hs
  exact ⟨r', List.mem_append_left _ hr', h1⟩
theorem SeenP.more {L : List (List (Int × Int))} {p : Int × Int} {sn : List ((Int × Int) × (Int × Int))} (h : SeenP L p sn) {r : List (Int × Int)} (hp : p ∈ r) (hon : onB (pvR r p) (scR r p) p = true) (he : (sn ++ [lsE (bsR r p)])[0]? = some (lsE (bsR r p))) : SeenP (L ++ [r]) p (sn ++ [lsE (bsR r p)]) := by
 have h0 : ∀ s, sn[0]? = some s → (sn ++ [lsE (bsR r p)])[0]? = some s := fun s hs => by
  cases sn with
  |nil => cases hs
  |cons a t => exact hs
 refine ⟨by have := h.1; rw [List.length_append, List.length_append]; simp only [List.length_cons, List.length_nil]; omega, fun s hs hps => ?_, fun s hs => ?_⟩
 ·rcases List.mem_append.1 hs with hs | hs
  ·exact ⟨(h.2.1 s hs hps).1, h0 _ (h.2.1 s hs hps).2⟩
  ·obtain rfl := List.mem_singleton.1 hs
   exact ⟨hon, he⟩
 ·rw [he] at hs
  exact ⟨r, List.mem_append_right _ (List.mem_singleton.2 rfl), hp, (Option.some.inj hs).symm⟩
theorem SeenP.first {L : List (List (Int × Int))} {p : Int × Int} {sn : List ((Int × Int) × (Int × Int))} (h : SeenP L p sn) {r : List (Int × Int)} (hp : p ∈ r) {s0 : (Int × Int) × (Int × Int)} (hs : (sn ++ [lsE (bsR r p)])[0]? = some s0) : ∃ r' ∈ L ++ [r], p ∈ r' ∧ s0 = lsE (bsR r' p) := by
 cases sn with
 |nil => exact ⟨r, List.mem_append_right _ (List.mem_singleton.2 rfl), hp, (Option.some.inj hs).symm⟩
 |cons a t =>
  obtain ⟨r', hr', h1⟩ := h.2.2 s0 hs
  exact ⟨r', List.mem_append_left _ hr', h1⟩
theorem SeenP.done {L : List (List (Int × Int))} {p : Int × Int} {sn : List ((Int × Int) × (Int × Int))} (h : SeenP L p sn) : docI L p := fun r hr s hs hpr hps => by
 obtain ⟨h1, h2⟩ := h.2.1 r hr hpr
 obtain ⟨-, h3⟩ := h.2.1 s hs hps
 exact ⟨h1, lsE_eq (Option.some.inj (h2.symm.trans h3))⟩
theorem docI_not {L : List (List (Int × Int))} {p : Int × Int} {r r' : List (Int × Int)} (hr : r ∈ L) (hr' : r' ∈ L) (hp : p ∈ r) (hp' : p ∈ r') (h : onB (pvR r p) (scR r p) p = false ∨ lsE (bsR r' p) ≠ lsE (bsR r p)) : ¬ docI L p := fun hd => by
 rcases h with h | h
 ·have := (hd r hr r hr hp hp).1
  rw [h] at this
  cases this
 ·rcases (hd r' hr' r hr hp' hp).2 with e | e
  ·exact h (by rw [e])
  ·exact h (by rw [e, lsE_bk])
section
variable {w W W' : World} {A1 Ap : Option Addr} {o : List (Int × Int)} {c1 n cp g : Nat} {l : List PV} {v v' : Value} {sn sn' : List ((Int × Int) × (Int × Int))}
theorem Og.growE (h : Og w A1 o c1 Ap n l cp g [] W) (hv : RowI w 59 4 encG v sn W) (hB : Below w.heap.size w W') (hg : W.grownBy W' v.ownBlock) : Og w A1 o c1 Ap n l cp g [] W' :=
  ⟨Hold.grow h.hold hB hg (fun e he => by
    rcases List.mem_cons.1 he with rfl | he
    · exact hv.apart (h.hold.2.1 _ (.head _)).1 (show (26 : Nat) ≠ 59 by decide)
    · cases he),
   ⟨hB, h.out.2.kept hg (rows_apart h.out.2 hv.2 (show (28 : Nat) ≠ 59 by decide))⟩,
   ⟨hB, h.row.2.kept hg (rows_apart h.row.2 hv.2 (show (45 : Nat) ≠ 59 by decide))⟩,
   OwnRs.grow h.rs hv.2 (show (28 : Nat) ≠ 59 by decide) hg⟩
theorem Og.blkE {K : List (Nat × Array Value × TypeId)} (h : Og w A1 o c1 Ap n l cp g K W) (h0 : 0 < l.length) : ∃ g' cs, Ap = some ⟨g', 0, none⟩ ∧ W.heap[g']? = some (.cells cs 45 (0, 0)) := by
 obtain ⟨hB, hl, h2⟩ := h.row
 rcases h2 with ⟨e, hz⟩ | ⟨g', cap', cur, e, hb, hh, hn, hc, hs, ht⟩
 ·omega
 ·obtain ⟨rfl, -, -⟩ := Value.slice.inj e
  exact ⟨g', cur, rfl, hh⟩
theorem RowI.farE (h : RowI w 59 4 encG v sn W) {gg : Nat} {cs : Array Value} {t : TypeId} (hh : W.heap[gg]? = some (.cells cs t (0, 0))) (ht : t ≠ 59) (i : Nat) (u : Value) (hB : Below w.heap.size w (W.setCell ⟨gg, i, none⟩ u)) : RowI w 59 4 encG v sn (W.setCell ⟨gg, i, none⟩ u) := ⟨hB, row_far_set h.2 (row_block h.2 hh ht) i u⟩
end
end Go.Proofs.YtfjfmieadedjoaaGreat

namespace Go.Proofs.YtfjfmieadedjoaaGreat
open Go.RowKit
set_option maxRecDepth 100000 in
set_option maxHeartbeats 20000000 in
theorem ref_clear (o : List (Int × Int)) (Ao : Option Addr) (co : Nat) (l : List PV) (Ap : Option Addr) (cp : Nat) (p : Int × Int) (hl : l.length ≤ 1000000) (ho : o.length ≤ 1000000000) (hown : ∀ x ∈ l, x.par.own.size ≤ maxLen) (w : World) (h : PlanAt w o Ao co l Ap cp) :
  Calls Tryz.prog 17 #[.agg #[.slice Ao o.length co, .slice Ap l.length cp], .agg #[.int .i64 p.1, .int .i64 p.2]] w fun e w' => ClearAt w w' o (l.map PV.par) p e := by
 have HCK := Lib.hid (fun W (hb : Below w.heap.size w W) => (by
  have hx := ref_chk o Ao co l Ap cp hl ho hown W (h.on hb).prs (h.on hb).out
  rw [chkQ_of] at hx
  exact hx : Calls Tryz.prog 18 #[.agg #[.slice Ao o.length co, .slice Ap l.length cp]] W fun e' w' => e' = .returned (.bool (chkQ o (l.map PV.par))) ∧ Below W.heap.size W w'))
 have HGO := Lib.hid (fun W t => ref_good_one p 1 W t)
 have hco := fun (r : Int × Int) W (hb : Below w.heap.size w W) => ref_corner o Ao co l Ap cp r hl W (h.on hb).prs
 simp only [cB_of] at hco
 have HCO := Lib.hid hco
 have HOD := Lib.hid (fun W (hb : Below w.heap.size w W) => Own_own o Ao co l Ap cp hl W (h.on hb))
 have HOW := Lib.hid hown
 have HQ := (((Hold.refl w).new #[.slice Ao o.length co, .slice Ap l.length cp] 26).new' #[.int .i64 p.1, .int .i64 p.2] 28 (n := w.heap.size + 1) (by simp)).new' #[.slice none 0 0, .slice none 0 0] 26 (n := w.heap.size + 1 + 1) (by simp)
 clear h hl ho hown hco
 go_enter Tryz.func17, Tryz.ntmps17
 go_upto_region 1 with (fail)
 generalize (World.alloc _ _) = W1 at HQ ⊢
 generalize w.heap.size + 1 + 1 = g4 at HQ ⊢
 generalize w.heap.size + 1 = g3 at HQ ⊢
 obtain ⟨g2, hg2⟩ : ∃ g, w.heap.size = g := ⟨_, rfl⟩
 rw [hg2] at HQ ⊢
 have HQX := Lib.hid HQ
 have HG2 := Lib.hid hg2
 clear hg2
 obtain ⟨c0, c1⟩ := HQ.pt (.tail _ (.tail _ (.head _)))
 clear HQ
 go_wp2_with fail
 go_at_call 18
 refine (HCK.out _ HQX.out.1).mono ?_
 rintro e' W2 ⟨rfl, hB⟩
 have HQ2 := Lib.hid (HQX.out.on hB)
 clear hB c0 c1 HCK
 cases hcb : chkQ o (l.map PV.par)
 ·have HE := Lib.hid (cl_form (p := p) hcb)
  clear hcb
  obtain ⟨y0, y1⟩ := HQ2.out.pt (.head _)
  obtain ⟨z0, z1⟩ := HQ2.out.fz (.head _)
  go_wp2
  have HE2 := HQ2.out.set2 (.slice none 0 0) (.slice none 0 0)
  obtain ⟨n0, n1⟩ := HE2.pt (.head _)
  refine bodyPost_ret (v := .tuple #[.agg #[.slice none 0 0, .slice none 0 0], .int .i64 2]) ?_ rfl ⟨HE2.1, .inl ⟨by rw [HE.out]; decide, by rw [HE.out]⟩⟩
  simp [results, Tryz.results17, go_sem, n0, n1]
 ·have HCB := Lib.hid hcb
  have HPQ : Hid (PlanQ o (l.map PV.par)) := (chkQ_iff _ _).1 hcb
  clear hcb
  obtain ⟨c0, c1⟩ := HQ2.out.pt (.tail _ (.head _))
  go_wp2_with fail
  go_at_call 24
  refine (HGO.out _ _).mono ?_
  rintro e' W3 ⟨rfl, hB⟩
  have HQ3 := (HQ2.out.alloc _).on (hB.mono (by simp only [World.size_alloc]; omega))
  clear hB c0 c1 HQ2
  have HQ2 := Lib.hid HQ3
  clear HQ3
  cases hgg : gdL [p]
  ·have hor : gd p = false := by
    simp only [gdL, List.all_cons, List.all_nil, Bool.and_true] at hgg
    exact hgg
   have HE := Lib.hid (cl_range HCB.out hor)
   clear hgg hor
   obtain ⟨y0, y1⟩ := HQ2.out.pt (.head _)
   obtain ⟨z0, z1⟩ := HQ2.out.fz (.head _)
   go_wp2
   have HE2 := HQ2.out.set2 (.slice none 0 0) (.slice none 0 0)
   obtain ⟨n0, n1⟩ := HE2.pt (.head _)
   refine bodyPost_ret (v := .tuple #[.agg #[.slice none 0 0, .slice none 0 0], .int .i64 3]) ?_ rfl ⟨HE2.1, .inl ⟨by rw [HE.out]; decide, by rw [HE.out]⟩⟩
   simp [results, Tryz.results17, go_sem, n0, n1]
  ·have hand : gd p = true := by simpa [gdL] using hgg
   have HGP := Lib.hid hand
   clear hgg hand
   obtain ⟨c0, c1⟩ := HQ2.out.pt (.tail _ (.tail _ (.head _)))
   obtain ⟨d0, d1⟩ := HQ2.out.pt (.tail _ (.head _))
   go_wp2_with fail
   go_at_call 31
   refine (HCO.out p _ HQ2.out.1).mono ?_
   rintro e' W6 ⟨rfl, hB⟩
   have HQ4 := HQ2.out.on hB
   clear hB c0 c1 d0 d1 HQ2
   have HQ2 := Lib.hid HQ4
   clear HQ4
   cases hbc : cB (l.map PV.par) p
   ·have HE := Lib.hid (cl_none HCB.out HGP.out hbc)
    clear hbc
    obtain ⟨y0, y1⟩ := HQ2.out.pt (.head _)
    obtain ⟨z0, z1⟩ := HQ2.out.fz (.head _)
    go_wp2
    have HE2 := HQ2.out.set2 (.slice none 0 0) (.slice none 0 0)
    obtain ⟨n0, n1⟩ := HE2.pt (.head _)
    refine bodyPost_ret (v := .tuple #[.agg #[.slice none 0 0, .slice none 0 0], .int .i64 5]) ?_ rfl ⟨HE2.1, .inl ⟨by rw [HE.out]; decide, by rw [HE.out]⟩⟩
    simp [results, Tryz.results17, go_sem, n0, n1]
   ·have HBC := Lib.hid hbc
    clear hbc
    obtain ⟨c0, c1⟩ := HQ2.out.pt (.tail _ (.tail _ (.head _)))
    go_upto_region 8 with (go_at_call 11; go_must (refine (HOD.out _ HQ2.out.1).mono ?_; rintro e' Wb ⟨hB, A1, cA, l', Ap1, cp1, rfl, hm, -, h1, h2, h3⟩; have hog := Og.mkNew ((Hold.refl W6).on hB) h1 h2 h3; have HM := Lib.hid hm; clear hB hm h1 h2 h3))
    clear c0 c1
    generalize (World.alloc _ _) = W7 at hog ⊢
    generalize (World.heap _).size = g8 at hog ⊢
    have HLL : Hid (l.length ≤ 64) := by have := HPQ.out.fine.2.2.2.1; rw [List.length_map] at this; exact this
    have HLQ : Hid (∀ x ∈ l.map PV.par, x.ring.length ≤ 128 ∧ gdL x.ring = true ∧ 0 < x.ring.length) := fun x hx => ⟨(HPQ.out.ringP hx).2.2, (HPQ.out.ringP hx).2.1, by have := (HPQ.out.ringP hx).1.1; omega⟩
    have HQ6 := Lib.hid HQ2.out
    have HID : Hid (idlB (ringsQ (l.map PV.par)) p = true ↔ docI (o :: ringsQ (l.map PV.par)) p) := idle_doc HPQ.out.fit (by
     obtain ⟨x, hx, hp⟩ := cB_iff.1 HBC.out
     exact ⟨_, List.mem_map_of_mem hx, hp⟩)
    generalize hps : l.map PV.par = ps at *
    have HPX := Lib.hid hps
    have HPS : Hid (ps.length = l.length) := by unfold Hid; rw [← hps, List.length_map]
    have HOWP : Hid (∀ x ∈ ps, x.own.size ≤ maxLen) := fun x hx => by
     rw [← hps] at hx
     obtain ⟨y, hy, rfl⟩ := List.mem_map.1 hx
     exact HOW.out y hy
    have HRS : Hid ((o :: ringsQ ps).length = l.length + 1) := by unfold Hid ringsQ; rw [List.length_cons, List.length_map]; have := HPS.out; omega
    have HH0 : Hid (l'.map PV.par = (ps.take 0).map (clP p) ++ ps.drop 0) := by unfold Hid; rw [HM.out]; rfl
    have HSN0 : Hid (SeenP ((o :: ringsQ ps).take 0) p []) := SeenP.nil p
    have HOX0 : Hid (o = if (0 : Nat) = 0 then o else repL o p []) := rfl
    have HOG0 := Lib.hid hog
    clear hog HGO HCO HOD HM HQ2
    go_wp2_with fail
    go_loopg [7, 8] (l.length + 1) (fun gg s7 s8 wr => ∃ (k : Nat) (ox : List (Int × Int)) (Ax : Option Addr) (cx : Nat) (lx : List PV) (sn : List ((Int × Int) × (Int × Int))), k ≤ l.length + 1 ∧ gg = l.length + 1 - k ∧ s8 = .int .i64 ((k : Int) - 1) ∧ Hid (ox = if k = 0 then o else repL o p []) ∧ Hid (lx.map PV.par = (ps.take (k - 1)).map (clP p) ++ ps.drop (k - 1)) ∧ Hid (SeenP ((o :: ringsQ ps).take k) p sn) ∧ Og W6 Ax ox cx Ap1 l.length lx cp1 g8 [] wr ∧ RowI W6 59 4 encG s7 sn wr)
    case atStart => exact ⟨0, o, A1, cA, l', [], Nat.zero_le _, rfl, rfl, HOX0, HH0, HSN0, HOG0.out, RowI.nil HOG0.out.hold.1⟩
    case round =>
     clear HH0 HOG0 HSN0 HOX0
     obtain ⟨k, ox, Ax, cx, lx, sn, hk, hgk, hi, HOX, HMX, HSN, hog, hv⟩ := hrel
     have HGK := Lib.hid hgk
     clear hgk
     obtain ⟨Av, cv, rfl, -, -⟩ := hv.items
     have HLS : Hid (sn.length ≤ 65) := by
      have h1 := HSN.out.1
      rw [List.length_take] at h1
      have := HLL.out
      have := HRS.out
      unfold Hid
      omega
     have HP3 : Hid (∀ W, Below W6.heap.size W6 W → W.cell? ⟨g3, 0, none⟩ = some (.int .i64 p.1) ∧ W.cell? ⟨g3, 1, none⟩ = some (.int .i64 p.2)) := fun W hb => (HQ6.out.on hb).pt (.tail _ (.head _))
     obtain ⟨c0, c1⟩ := hog.hold.pt (.head _)
     obtain ⟨d0, d1⟩ := HP3.out _ hog.hold.1
     have HOG := Lib.hid hog
     have HVV := Lib.hid hv
     by_cases hlt : k < l.length + 1
     ·rcases Nat.eq_zero_or_pos k with hk0 | hk0
      ·subst hk0
       rw [if_pos rfl] at HOX
       have hox : o = ox := HOX.out.symm
       subst hox
       obtain rfl : _ = Value.int .i64 (-1) := hi
       have hol := HPQ.out.outP
       obtain ⟨gr, rfl, -⟩ := own_block hog.out.2 (by have := hol.1.1; omega)
       have HPR : Hid (∀ W, Below wr.heap.size wr W → Pts W W.heap.size (some ⟨gr, 0, none⟩) o ∧ o.length ≤ cx) := fun W hb => by
        have h1 := (HOG.out.on hb).out.whole
        exact ⟨h1.1, h1.2.2⟩
       have HGR : Hid (gdL o = true ∧ o.length ≤ 1000) := ⟨hol.2.1, by have := hol.2.2; omega⟩
       have HTK : Hid ((o :: ringsQ ps).take (0 + 1) = (o :: ringsQ ps).take 0 ++ [o]) := rfl
       have HIN : Hid (o ∈ o :: ringsQ ps) := List.mem_cons_self
       have b1 : (-1 : Int) < (l.length : Int) := by omega
       clear hol hog hv hk hlt HOX
       go_wp2_with fail
       go_at_call 20
       refine (ref_in o (some ⟨gr, 0, none⟩) cx p (by have := HGR.out.2; omega) _ (HPR.out _ (Below.refl _ _)).1).mono ?_
       rintro e' Wa ⟨n, rfl, hpl, hB⟩
       have HBA := Lib.hid hB
       clear c0 c1 d0 d1 hB
       by_cases hm : p ∈ o
       ·have hnn := plc_pos hpl hm
        subst hnn
        have b5 : (0 : Int) ≤ (posL o p : Int) := by omega
        have HCL := Lib.hid (ref_cleared o ⟨gr, 0, none⟩ cx p hm HGR.out.1 HGR.out.2 (HPR.out _ HBA.out).2 Wa (HPR.out _ HBA.out).1)
        have HND0 : Hid (onB (pvR o p) (scR o p) p = false → idlB (ringsQ ps) p = false) := fun h => by
         cases hi : idlB (ringsQ ps) p
         ·rfl
         ·exact absurd (HID.out.1 hi) (docI_not HIN.out HIN.out hm hm (.inl h))
        have HND1 : Hid (∀ s0, (sn ++ [lsE (bsR o p)])[0]? = some s0 → s0 ≠ lsE (bsR o p) → idlB (ringsQ ps) p = false) := fun s0 h hne => by
         obtain ⟨r', hr', hp', e⟩ := SeenP.first HSN.out hm h
         rw [← HTK.out] at hr'
         cases hi : idlB (ringsQ ps) p
         ·rfl
         ·exact absurd (HID.out.1 hi) (docI_not HIN.out (List.mem_of_mem_take hr') hm hp' (.inr (by rw [← e]; exact hne)))
        have HSM : Hid (onB (pvR o p) (scR o p) p = true → (sn ++ [lsE (bsR o p)])[0]? = some (lsE (bsR o p)) → SeenP ((o :: ringsQ ps).take (0 + 1)) p (sn ++ [lsE (bsR o p)])) := fun h1 h2 => by rw [HTK.out]; exact SeenP.more HSN.out hm h1 h2
        clear hpl hm HPR
        generalize posL o p = n0 at *
        generalize onB (pvR o p) (scR o p) p = ok at *
        generalize lsE (bsR o p) = ee at *
        go_wp2_with fail
        go_at_call 39
        refine HCL.out.mono ?_
        rintro e' Wb ⟨v, rfl, hrow⟩
        have hog2 := (HOG.out.on HBA.out).on hrow.1
        have hv2 := (HVV.out.on HBA.out).on hrow.1
        have hrow2 := hrow.base (HOG.out.on HBA.out).hold.1
        obtain ⟨A5, c5, rfl, -, -⟩ := hrow2.nilOk
        have hbE := (Below.refl Wb.heap.size Wb).alloc (Nat.le_refl _) (Obj.cells #[.int .i64 ee.1.1, .int .i64 ee.1.2, .int .i64 ee.2.1, .int .i64 ee.2.2] 59 (0, 0))
        have HOG3 := Lib.hid (hog2.on hbE)
        have HV3 := Lib.hid (hv2.on hbE)
        have HR3 := Lib.hid (hrow2.on hbE)
        have hE3 := heap_alloc_new Wb (Obj.cells #[.int .i64 ee.1.1, .int .i64 ee.1.2, .int .i64 ee.2.1, .int .i64 ee.2.2] 59 (0, 0))
        have HNE := Lib.hid (hv2.row_ne (Nat.le_refl Wb.heap.size))
        clear hog2 hv2 hrow2 hrow hbE HCL HOG HVV
        go_upto_region 18 with (fail)
        generalize (World.alloc _ _) = W8 at HOG3 HV3 HR3 hE3 ⊢
        generalize Wb.heap.size = g12 at hE3 HNE ⊢
        have x0 := blk_cell hE3 0
        have x1 := blk_cell hE3 1
        have x2 := blk_cell hE3 2
        have x3 := blk_cell hE3 3
        have HE3 := Lib.hid hE3
        clear hE3
        go_upto_region 19 with (at_builtin; go_must (refine append_itemG kindG Tryz.underlying63 HV3.out ee 59 #[.int .i64 ee.1.1, .int .i64 ee.1.2, .int .i64 ee.2.1, .int .i64 ee.2.2] rfl (by have := HLS.out; unfold maxLen; omega) (by have := HLS.out; omega) rfl _ _ rfl rfl 1 rfl ?_; rintro v9 W9 HR9 hg9; have hbt := (Below.refl W8.heap.size W8).alloc (Nat.le_refl _) (Obj.cells #[.int .i64 ee.1.1, .int .i64 ee.1.2, .int .i64 ee.2.1, .int .i64 ee.2.2] 59 (0, 0)); have HOG9 := Lib.hid (Og.growE (HOG3.out.on hbt) (HV3.out.on hbt) HR9.1 hg9); have HRW9 : Hid (Row W6 (.slice A5 (repL o p []).length c5) (repL o p []) W9) := ⟨HR9.1, (HR3.out.on hbt).2.kept hg9 (rows_apart (HR3.out.on hbt).2 (HV3.out.on hbt).2 (show (28 : Nat) ≠ 59 by decide))⟩; have hEt := (hbt.block g12 (blk_lt HE3.out)).trans HE3.out; have HE9 := Lib.hid ((hg9.block g12 (blk_lt hEt) (fun e' => HNE.out e'.symm)).trans hEt); have HV9 := Lib.hid HR9; clear HR9 hg9 hbt hEt))
        clear x0 x1 x2 x3 HOG3 HV3 HR3 HE3 HNE
        obtain ⟨A9, c9, hv9, hit, -⟩ := HV9.out.items
        subst hv9
        obtain ⟨gs, rfl, -⟩ := own_block HV9.out.2 (by simp)
        obtain ⟨s0, hs0⟩ : ∃ s0, (sn ++ [ee])[0]? = some s0 := by cases sn <;> exact ⟨_, rfl⟩
        have hh : 0 < (sn ++ [ee]).length := by simp
        have hs1 : (sn ++ [ee])[0] = s0 := by rw [List.getElem?_eq_getElem hh] at hs0; exact Option.some.inj hs0
        obtain ⟨aS2, hA2, -, hc0, hc⟩ := Items.at kindG.len hit (k := 0) hh
        obtain rfl := Option.some.inj hA2
        rw [show ((⟨gs, 0, none⟩ : Addr).add (0 * 4)) = ⟨gs, 0, none⟩ by rw [add_off], hs1] at hc0 hc
        have y0 := hc0 _ (by decide) rfl
        have y1 := hc 1 _ (by decide) (by decide) rfl
        have y2 := hc 2 _ (by decide) (by decide) rfl
        have y3 := hc 3 _ (by decide) (by decide) rfl
        have x0 := blk_cell HE9.out 0
        have x1 := blk_cell HE9.out 1
        have x2 := blk_cell HE9.out 2
        have x3 := blk_cell HE9.out 3
        have HS0 := Lib.hid hs0
        have b20 : (0 : Int) < ((sn ++ [ee]).length : Int) := by omega
        have HLN : Hid ((sn ++ [ee]).length ≤ 66) := by have := HLS.out; unfold Hid; rw [List.length_append]; simp only [List.length_cons, List.length_nil]; omega
        clear hit hc0 hc hs1 hs0 hh HE9
        generalize hn9 : (sn ++ [ee]).length = n9 at *
        have b21 : 0 < n9 := by omega
        have b22 : ¬ n9 = 0 := by omega
        go_cut [71] (fun s71 wx => ∃ b : Bool, s71 = .bool b ∧ Hid (b = true → idlB (ringsQ ps) p = false) ∧ Hid (b = false → SeenP ((o :: ringsQ ps).take (0 + 1)) p (sn ++ [ee])) ∧ Below W9.heap.size W9 wx)
        case first =>
         clear HOG9 HRW9 HV9 HTK HLS HLN HMX HSN HQ6 HID
         cases ok
         ·have HBAD := Lib.hid (HND0.out rfl)
          clear HND0 HND1 HSM HS0
          go_quiet (fail)
          go_wp2_with fail
          go_meet
          exact ⟨true, rfl, fun _ => HBAD.out, fun h => (by cases h), ((Hold.refl W9).drewN nq).1⟩
         ·have hw : (s0.1.1 = ee.1.1 ∧ s0.1.2 = ee.1.2 ∧ s0.2.1 = ee.2.1 ∧ s0.2.2 = ee.2.2) ∨ ¬ s0.1.1 = ee.1.1 ∨ (s0.1.1 = ee.1.1 ∧ ¬ s0.1.2 = ee.1.2) ∨ (s0.1.1 = ee.1.1 ∧ s0.1.2 = ee.1.2 ∧ ¬ s0.2.1 = ee.2.1) ∨ (s0.1.1 = ee.1.1 ∧ s0.1.2 = ee.1.2 ∧ s0.2.1 = ee.2.1 ∧ ¬ s0.2.2 = ee.2.2) := by omega
          rcases hw with ⟨h1, h2, h3, h4⟩ | h1 | ⟨h1, h2⟩ | ⟨h1, h2, h3⟩ | ⟨h1, h2, h3, h4⟩
          ·have hse : s0 = ee := Prod.ext (Prod.ext h1 h2) (Prod.ext h3 h4)
           have HSX := Lib.hid (HSM.out rfl (by rw [HS0.out, hse]))
           subst hse
           clear h1 h2 h3 h4 HND0 HND1 HSM HS0
           go_quiet (fail)
           go_wp2_with fail
           go_meet
           exact ⟨false, rfl, fun h => (by cases h), fun _ => HSX.out, ((Hold.refl W9).drewN nq).1⟩
          ·have HBAD := Lib.hid (HND1.out s0 HS0.out (fun h => h1 (by rw [h])))
           have e1 : (s0.1.1 == ee.1.1) = false := by simpa using h1
           clear h1 HND0 HND1 HSM HS0
           go_quiet (fail)
           go_wp2_with fail
           go_meet
           exact ⟨true, rfl, fun _ => HBAD.out, fun h => (by cases h), ((Hold.refl W9).drewN nq).1⟩
          ·have HBAD := Lib.hid (HND1.out s0 HS0.out (fun h => h2 (by rw [h])))
           have e1 : (s0.1.1 == ee.1.1) = true := by simpa using h1
           have e2 : (s0.1.2 == ee.1.2) = false := by simpa using h2
           clear h1 h2 HND0 HND1 HSM HS0
           go_quiet (fail)
           go_wp2_with fail
           go_meet
           exact ⟨true, rfl, fun _ => HBAD.out, fun h => (by cases h), ((Hold.refl W9).drewN nq).1⟩
          ·have HBAD := Lib.hid (HND1.out s0 HS0.out (fun h => h3 (by rw [h])))
           have e1 : (s0.1.1 == ee.1.1) = true := by simpa using h1
           have e2 : (s0.1.2 == ee.1.2) = true := by simpa using h2
           have e3 : (s0.2.1 == ee.2.1) = false := by simpa using h3
           clear h1 h2 h3 HND0 HND1 HSM HS0
           go_quiet (fail)
           go_wp2_with fail
           go_meet
           exact ⟨true, rfl, fun _ => HBAD.out, fun h => (by cases h), ((Hold.refl W9).drewN nq).1⟩
          ·have HBAD := Lib.hid (HND1.out s0 HS0.out (fun h => h4 (by rw [h])))
           have e1 : (s0.1.1 == ee.1.1) = true := by simpa using h1
           have e2 : (s0.1.2 == ee.1.2) = true := by simpa using h2
           have e3 : (s0.2.1 == ee.2.1) = true := by simpa using h3
           have e4 : (s0.2.2 == ee.2.2) = false := by simpa using h4
           clear h1 h2 h3 h4 HND0 HND1 HSM HS0
           go_quiet (fail)
           go_wp2_with fail
           go_meet
           exact ⟨true, rfl, fun _ => HBAD.out, fun h => (by cases h), ((Hold.refl W9).drewN nq).1⟩
        case rest =>
         obtain ⟨b, rfl, HB1, HB2, hbq⟩ := hcut
         generalize wc = W10 at *
         clear HND0 HND1 HSM HS0 x0 x1 x2 x3 y0 y1 y2 y3
         cases b
         ·have HSX := Lib.hid (HB2.out rfl)
          have hog10 := HOG9.out.on hbq
          have hv10 := HV9.out.on hbq
          have hrw10 := HRW9.out.on hbq
          clear HB1 HB2 hbq
          obtain ⟨c0, c1⟩ := hog10.hold.pt (.head _)
          obtain ⟨f0, f1⟩ := hog10.hold.fz (.head _)
          have hog11 := Og.outer hog10 hrw10
          have HV11 := Lib.hid (RowI.farE hv10 (hog10.hold.2.1 _ (.head _)).1 (show (26 : Nat) ≠ 59 by decide) 0 (.slice A5 (repL o p []).length c5) hog11.hold.1)
          have HOG11 := Lib.hid hog11
          clear hog11 hog10 hv10 hrw10
          go_wp2
          go_roundg (l.length + 1 - (0 + 1))
          case measure => have := HGK.out; omega
          case rel => exact ⟨0 + 1, repL o p [], A5, c5, lx, sn ++ [ee], by omega, rfl, by first | rfl | go_num, rfl, HMX, HSX, HOG11.out, HV11.out⟩
         ·have HE := Lib.hid (cl_side HCB.out HGP.out HBC.out (HB1.out rfl))
          have HQ2 := Lib.hid ((HQ6.out.on HOG9.out.hold.1).on hbq)
          clear HB1 HB2 hbq
          obtain ⟨y0, y1⟩ := HQ2.out.pt (.head _)
          obtain ⟨z0, z1⟩ := HQ2.out.fz (.head _)
          go_wp2
          have HE2 := HQ2.out.set2 (.slice none 0 0) (.slice none 0 0)
          obtain ⟨n0, n1⟩ := HE2.pt (.head _)
          refine bodyPost_ret (v := .tuple #[.agg #[.slice none 0 0, .slice none 0 0], .int .i64 7]) ?_ rfl ⟨HE2.1, .inl ⟨by first | (rw [HPX.out, HE.out]; decide) | (rw [HE.out]; decide), by first | rw [HPX.out, HE.out] | rw [HE.out]⟩⟩
          simp [results, Tryz.results17, go_sem, n0, n1]
       ·obtain rfl := plc_no hpl hm
        have HSX : Hid (SeenP ((o :: ringsQ ps).take (0 + 1)) p sn) := by unfold Hid; rw [HTK.out]; exact SeenP.out HSN.out hm
        have HOG2 := Lib.hid (HOG.out.on HBA.out)
        have HV2 := Lib.hid (HVV.out.on HBA.out)
        have he : repL o p [] = o := repL_out hm
        clear hm hpl
        go_wp2
        go_roundg (l.length + 1 - (0 + 1))
        case measure => have := HGK.out; omega
        case rel => exact ⟨0 + 1, o, some ⟨gr, 0, none⟩, cx, lx, sn, by omega, rfl, by first | rfl | go_num, by unfold Hid; rw [if_neg (by omega), he], HMX, HSX, HOG2.out, HV2.out⟩
      ·obtain ⟨j, rfl⟩ : ∃ j, k = j + 1 := ⟨k - 1, by omega⟩
       have ej : ((j + 1 : Nat) : Int) - 1 = (j : Int) := by omega
       rw [ej] at hi
       subst hi
       rw [if_neg (by omega)] at HOX
       rw [Nat.add_sub_cancel] at HMX
       have hjl : j < l.length := by omega
       have hjp : j < ps.length := by have := HPS.out; omega
       have hgx := part_get (clP p) ps hjp
       rw [← HMX.out, List.getElem?_map] at hgx
       obtain ⟨x, hx, hxp⟩ := Option.map_eq_some_iff.1 hgx
       have hjx : j < lx.length := by
        rcases Nat.lt_or_ge j lx.length with h | h
        ·exact h
        ·rw [List.getElem?_eq_none h] at hx; cases hx
       obtain ⟨g', hAp, d2⟩ := hog.place hx
       have hxm : x ∈ lx := List.mem_of_getElem? hx
       have hsz := HLQ.out _ (List.getElem_mem hjp)
       obtain ⟨gr, hxA, -⟩ := own_block (hog.rs x hxm) (by rw [hxp]; exact hsz.2.2)
       have HXE : Hid (x = ⟨⟨x.par.id, x.par.ring, x.par.own⟩, x.A, x.cap⟩) := rfl
       have HPR : Hid (∀ W, Below wr.heap.size wr W → Pts W W.heap.size (some ⟨gr, 0, none⟩) x.par.ring ∧ x.par.ring.length ≤ x.cap) := fun W hb => by
        have h1 := (show Row W6 (.slice x.A x.par.ring.length x.cap) x.par.ring W from ⟨(HOG.out.on hb).hold.1, (HOG.out.on hb).rs x hxm⟩).whole
        rw [hxA] at h1
        exact ⟨h1.1, h1.2.2⟩
       have HGR : Hid (gdL x.par.ring = true ∧ x.par.ring.length ≤ 1000) := by rw [hxp]; exact ⟨hsz.2.1, by omega⟩
       have hrj : (ringsQ ps)[j]? = some ps[j].ring := by unfold ringsQ; rw [List.getElem?_map, List.getElem?_eq_getElem hjp]; rfl
       have HTK : Hid ((o :: ringsQ ps).take (j + 1 + 1) = (o :: ringsQ ps).take (j + 1) ++ [x.par.ring]) := by
        have hjr : j + 1 < (o :: ringsQ ps).length := by have := HRS.out; omega
        unfold Hid
        rw [List.take_succ_eq_append_getElem hjr, hxp]
        have : (o :: ringsQ ps)[j + 1] = ps[j].ring := by
         have h1 : (o :: ringsQ ps)[j + 1]? = some ps[j].ring := hrj
         rw [List.getElem?_eq_getElem hjr] at h1
         exact Option.some.inj h1
        rw [this]
       have HIN : Hid (x.par.ring ∈ o :: ringsQ ps) := List.mem_cons_of_mem _ (by rw [hxp]; exact List.mem_of_getElem? hrj)
       have HPG := Lib.hid (part_set (clP p) ps hjp)
       have HPN : Hid (clP p ps[j] = ps[j] → (ps.take (j + 1)).map (clP p) ++ ps.drop (j + 1) = (ps.take j).map (clP p) ++ ps.drop j) := fun e => by rw [part_next _ ps hjp, part_step _ ps hjp, e]
       have HXP := Lib.hid hxp
       have HX := Lib.hid hx
       have HJX := Lib.hid hjx
       subst hAp
       rw [hxA] at d2
       have b0 : (0 : Int) ≤ (j : Int) := by omega
       have b1 : (j : Int) < (l.length : Int) := by omega
       have b2 : (l.length : Int) ≤ 64 := by have := HLL.out; omega
       clear hgx hrj hsz hog hv hlt ej HXE hxA
       clear hx hxp hxm hk hjl hjx
       go_wp2_with fail
       go_at_call 20
       refine (ref_in x.par.ring (some ⟨gr, 0, none⟩) x.cap p (by have := HGR.out.2; omega) _ (HPR.out _ (Below.refl _ _)).1).mono ?_
       rintro e' Wa ⟨n, rfl, hpl, hB⟩
       have HBA := Lib.hid hB
       clear c0 c1 d0 d1 hB
       by_cases hm : p ∈ x.par.ring
       ·have hnn := plc_pos hpl hm
        subst hnn
        have b5 : (0 : Int) ≤ (posL x.par.ring p : Int) := by omega
        have HCL := Lib.hid (ref_cleared x.par.ring ⟨gr, 0, none⟩ x.cap p hm HGR.out.1 HGR.out.2 (HPR.out _ HBA.out).2 Wa (HPR.out _ HBA.out).1)
        have HND0 : Hid (onB (pvR x.par.ring p) (scR x.par.ring p) p = false → idlB (ringsQ ps) p = false) := fun h => by
         cases hi : idlB (ringsQ ps) p
         ·rfl
         ·exact absurd (HID.out.1 hi) (docI_not HIN.out HIN.out hm hm (.inl h))
        have HND1 : Hid (∀ s0, (sn ++ [lsE (bsR x.par.ring p)])[0]? = some s0 → s0 ≠ lsE (bsR x.par.ring p) → idlB (ringsQ ps) p = false) := fun s0 h hne => by
         obtain ⟨r', hr', hp', e⟩ := SeenP.first HSN.out hm h
         rw [← HTK.out] at hr'
         cases hi : idlB (ringsQ ps) p
         ·rfl
         ·exact absurd (HID.out.1 hi) (docI_not HIN.out (List.mem_of_mem_take hr') hm hp' (.inr (by rw [← e]; exact hne)))
        have HSM : Hid (onB (pvR x.par.ring p) (scR x.par.ring p) p = true → (sn ++ [lsE (bsR x.par.ring p)])[0]? = some (lsE (bsR x.par.ring p)) → SeenP ((o :: ringsQ ps).take ((j + 1) + 1)) p (sn ++ [lsE (bsR x.par.ring p)])) := fun h1 h2 => by rw [HTK.out]; exact SeenP.more HSN.out hm h1 h2
        clear hpl hm HPR
        generalize posL x.par.ring p = n0 at *
        generalize onB (pvR x.par.ring p) (scR x.par.ring p) p = ok at *
        generalize lsE (bsR x.par.ring p) = ee at *
        go_wp2_with fail
        go_at_call 39
        refine HCL.out.mono ?_
        rintro e' Wb ⟨v, rfl, hrow⟩
        have hog2 := (HOG.out.on HBA.out).on hrow.1
        have hv2 := (HVV.out.on HBA.out).on hrow.1
        have hrow2 := hrow.base (HOG.out.on HBA.out).hold.1
        obtain ⟨A5, c5, rfl, -, -⟩ := hrow2.nilOk
        have hbE := (Below.refl Wb.heap.size Wb).alloc (Nat.le_refl _) (Obj.cells #[.int .i64 ee.1.1, .int .i64 ee.1.2, .int .i64 ee.2.1, .int .i64 ee.2.2] 59 (0, 0))
        have HOG3 := Lib.hid (hog2.on hbE)
        have HV3 := Lib.hid (hv2.on hbE)
        have HR3 := Lib.hid (hrow2.on hbE)
        have hE3 := heap_alloc_new Wb (Obj.cells #[.int .i64 ee.1.1, .int .i64 ee.1.2, .int .i64 ee.2.1, .int .i64 ee.2.2] 59 (0, 0))
        have HNE := Lib.hid (hv2.row_ne (Nat.le_refl Wb.heap.size))
        clear hog2 hv2 hrow2 hrow hbE HCL HOG HVV
        go_upto_region 18 with (fail)
        generalize (World.alloc _ _) = W8 at HOG3 HV3 HR3 hE3 ⊢
        generalize Wb.heap.size = g12 at hE3 HNE ⊢
        have x0 := blk_cell hE3 0
        have x1 := blk_cell hE3 1
        have x2 := blk_cell hE3 2
        have x3 := blk_cell hE3 3
        have HE3 := Lib.hid hE3
        clear hE3
        go_upto_region 19 with (at_builtin; go_must (refine append_itemG kindG Tryz.underlying63 HV3.out ee 59 #[.int .i64 ee.1.1, .int .i64 ee.1.2, .int .i64 ee.2.1, .int .i64 ee.2.2] rfl (by have := HLS.out; unfold maxLen; omega) (by have := HLS.out; omega) rfl _ _ rfl rfl 1 rfl ?_; rintro v9 W9 HR9 hg9; have hbt := (Below.refl W8.heap.size W8).alloc (Nat.le_refl _) (Obj.cells #[.int .i64 ee.1.1, .int .i64 ee.1.2, .int .i64 ee.2.1, .int .i64 ee.2.2] 59 (0, 0)); have HOG9 := Lib.hid (Og.growE (HOG3.out.on hbt) (HV3.out.on hbt) HR9.1 hg9); have HRW9 : Hid (Row W6 (.slice A5 (repL x.par.ring p []).length c5) (repL x.par.ring p []) W9) := ⟨HR9.1, (HR3.out.on hbt).2.kept hg9 (rows_apart (HR3.out.on hbt).2 (HV3.out.on hbt).2 (show (28 : Nat) ≠ 59 by decide))⟩; have hEt := (hbt.block g12 (blk_lt HE3.out)).trans HE3.out; have HE9 := Lib.hid ((hg9.block g12 (blk_lt hEt) (fun e' => HNE.out e'.symm)).trans hEt); have HV9 := Lib.hid HR9; clear HR9 hg9 hbt hEt))
        clear x0 x1 x2 x3 HOG3 HV3 HR3 HE3 HNE
        obtain ⟨A9, c9, hv9, hit, -⟩ := HV9.out.items
        subst hv9
        obtain ⟨gs, rfl, -⟩ := own_block HV9.out.2 (by simp)
        obtain ⟨s0, hs0⟩ : ∃ s0, (sn ++ [ee])[0]? = some s0 := by cases sn <;> exact ⟨_, rfl⟩
        have hh : 0 < (sn ++ [ee]).length := by simp
        have hs1 : (sn ++ [ee])[0] = s0 := by rw [List.getElem?_eq_getElem hh] at hs0; exact Option.some.inj hs0
        obtain ⟨aS2, hA2, -, hc0, hc⟩ := Items.at kindG.len hit (k := 0) hh
        obtain rfl := Option.some.inj hA2
        rw [show ((⟨gs, 0, none⟩ : Addr).add (0 * 4)) = ⟨gs, 0, none⟩ by rw [add_off], hs1] at hc0 hc
        have y0 := hc0 _ (by decide) rfl
        have y1 := hc 1 _ (by decide) (by decide) rfl
        have y2 := hc 2 _ (by decide) (by decide) rfl
        have y3 := hc 3 _ (by decide) (by decide) rfl
        have x0 := blk_cell HE9.out 0
        have x1 := blk_cell HE9.out 1
        have x2 := blk_cell HE9.out 2
        have x3 := blk_cell HE9.out 3
        have HS0 := Lib.hid hs0
        have b20 : (0 : Int) < ((sn ++ [ee]).length : Int) := by omega
        have HLN : Hid ((sn ++ [ee]).length ≤ 66) := by have := HLS.out; unfold Hid; rw [List.length_append]; simp only [List.length_cons, List.length_nil]; omega
        clear hit hc0 hc hs1 hs0 hh HE9
        generalize hn9 : (sn ++ [ee]).length = n9 at *
        have b21 : 0 < n9 := by omega
        have b22 : ¬ n9 = 0 := by omega
        go_cut [71] (fun s71 wx => ∃ b : Bool, s71 = .bool b ∧ Hid (b = true → idlB (ringsQ ps) p = false) ∧ Hid (b = false → SeenP ((o :: ringsQ ps).take ((j + 1) + 1)) p (sn ++ [ee])) ∧ Below W9.heap.size W9 wx)
        case first =>
         clear HOG9 HRW9 HV9 HTK HLS HLN HMX HSN HQ6 HID
         cases ok
         ·have HBAD := Lib.hid (HND0.out rfl)
          clear HND0 HND1 HSM HS0
          go_quiet (fail)
          go_wp2_with fail
          go_meet
          exact ⟨true, rfl, fun _ => HBAD.out, fun h => (by cases h), ((Hold.refl W9).drewN nq).1⟩
         ·have hw : (s0.1.1 = ee.1.1 ∧ s0.1.2 = ee.1.2 ∧ s0.2.1 = ee.2.1 ∧ s0.2.2 = ee.2.2) ∨ ¬ s0.1.1 = ee.1.1 ∨ (s0.1.1 = ee.1.1 ∧ ¬ s0.1.2 = ee.1.2) ∨ (s0.1.1 = ee.1.1 ∧ s0.1.2 = ee.1.2 ∧ ¬ s0.2.1 = ee.2.1) ∨ (s0.1.1 = ee.1.1 ∧ s0.1.2 = ee.1.2 ∧ s0.2.1 = ee.2.1 ∧ ¬ s0.2.2 = ee.2.2) := by omega
          rcases hw with ⟨h1, h2, h3, h4⟩ | h1 | ⟨h1, h2⟩ | ⟨h1, h2, h3⟩ | ⟨h1, h2, h3, h4⟩
          ·have hse : s0 = ee := Prod.ext (Prod.ext h1 h2) (Prod.ext h3 h4)
           have HSX := Lib.hid (HSM.out rfl (by rw [HS0.out, hse]))
           subst hse
           clear h1 h2 h3 h4 HND0 HND1 HSM HS0
           go_quiet (fail)
           go_wp2_with fail
           go_meet
           exact ⟨false, rfl, fun h => (by cases h), fun _ => HSX.out, ((Hold.refl W9).drewN nq).1⟩
          ·have HBAD := Lib.hid (HND1.out s0 HS0.out (fun h => h1 (by rw [h])))
           have e1 : (s0.1.1 == ee.1.1) = false := by simpa using h1
           clear h1 HND0 HND1 HSM HS0
           go_quiet (fail)
           go_wp2_with fail
           go_meet
           exact ⟨true, rfl, fun _ => HBAD.out, fun h => (by cases h), ((Hold.refl W9).drewN nq).1⟩
          ·have HBAD := Lib.hid (HND1.out s0 HS0.out (fun h => h2 (by rw [h])))
           have e1 : (s0.1.1 == ee.1.1) = true := by simpa using h1
           have e2 : (s0.1.2 == ee.1.2) = false := by simpa using h2
           clear h1 h2 HND0 HND1 HSM HS0
           go_quiet (fail)
           go_wp2_with fail
           go_meet
           exact ⟨true, rfl, fun _ => HBAD.out, fun h => (by cases h), ((Hold.refl W9).drewN nq).1⟩
          ·have HBAD := Lib.hid (HND1.out s0 HS0.out (fun h => h3 (by rw [h])))
           have e1 : (s0.1.1 == ee.1.1) = true := by simpa using h1
           have e2 : (s0.1.2 == ee.1.2) = true := by simpa using h2
           have e3 : (s0.2.1 == ee.2.1) = false := by simpa using h3
           clear h1 h2 h3 HND0 HND1 HSM HS0
           go_quiet (fail)
           go_wp2_with fail
           go_meet
           exact ⟨true, rfl, fun _ => HBAD.out, fun h => (by cases h), ((Hold.refl W9).drewN nq).1⟩
          ·have HBAD := Lib.hid (HND1.out s0 HS0.out (fun h => h4 (by rw [h])))
           have e1 : (s0.1.1 == ee.1.1) = true := by simpa using h1
           have e2 : (s0.1.2 == ee.1.2) = true := by simpa using h2
           have e3 : (s0.2.1 == ee.2.1) = true := by simpa using h3
           have e4 : (s0.2.2 == ee.2.2) = false := by simpa using h4
           clear h1 h2 h3 h4 HND0 HND1 HSM HS0
           go_quiet (fail)
           go_wp2_with fail
           go_meet
           exact ⟨true, rfl, fun _ => HBAD.out, fun h => (by cases h), ((Hold.refl W9).drewN nq).1⟩
        case rest =>
         obtain ⟨b, rfl, HB1, HB2, hbq⟩ := hcut
         generalize wc = W10 at *
         clear HND0 HND1 HSM HS0 x0 x1 x2 x3 y0 y1 y2 y3
         cases b
         ·have HSX := Lib.hid (HB2.out rfl)
          have hog10 := HOG9.out.on hbq
          have hv10 := HV9.out.on hbq
          have hrw10 := HRW9.out.on hbq
          clear HB1 HB2 hbq
          obtain ⟨c0, c1⟩ := hog10.hold.pt (.head _)
          obtain ⟨g'', e'', f0, ⟨u0, d2⟩, hog11⟩ := Og.ring hog10 (fun e he => nomatch he) HX.out hrw10
          obtain rfl : g' = g'' := congrArg Addr.block (Option.some.inj e'')
          obtain ⟨g3x, cs, e3, hhb⟩ := Og.blkE hog10 (by have := HJX.out; omega)
          obtain rfl : g' = g3x := congrArg Addr.block (Option.some.inj e3)
          have HV11 := Lib.hid (RowI.farE hv10 hhb (show (45 : Nat) ≠ 59 by decide) (j * 3 + 1) (.slice A5 (repL x.par.ring p []).length c5) hog11.hold.1)
          have HMY : Hid ((lx.set j ⟨⟨x.par.id, repL x.par.ring p [], x.par.own⟩, A5, c5⟩).map PV.par = (ps.take (j + 1)).map (clP p) ++ ps.drop (j + 1)) := by
           unfold Hid
           rw [List.map_set, HMX.out, ← HPG.out, ← HXP.out]
           rfl
          have HOG11 := Lib.hid hog11
          clear hog11 hog10 hv10 hrw10 hhb e3 e''
          go_wp2
          go_roundg (l.length + 1 - (j + 1 + 1))
          case measure => have := HGK.out; omega
          case rel => exact ⟨j + 1 + 1, ox, Ax, cx, _, sn ++ [ee], by omega, rfl, by first | rfl | go_num, by unfold Hid; rw [if_neg (by omega)]; exact HOX.out, HMY, HSX, HOG11.out, HV11.out⟩
         ·have HE := Lib.hid (cl_side HCB.out HGP.out HBC.out (HB1.out rfl))
          have HQ2 := Lib.hid ((HQ6.out.on HOG9.out.hold.1).on hbq)
          clear HB1 HB2 hbq
          obtain ⟨y0, y1⟩ := HQ2.out.pt (.head _)
          obtain ⟨z0, z1⟩ := HQ2.out.fz (.head _)
          go_wp2
          have HE2 := HQ2.out.set2 (.slice none 0 0) (.slice none 0 0)
          obtain ⟨n0, n1⟩ := HE2.pt (.head _)
          refine bodyPost_ret (v := .tuple #[.agg #[.slice none 0 0, .slice none 0 0], .int .i64 7]) ?_ rfl ⟨HE2.1, .inl ⟨by first | (rw [HPX.out, HE.out]; decide) | (rw [HE.out]; decide), by first | rw [HPX.out, HE.out] | rw [HE.out]⟩⟩
          simp [results, Tryz.results17, go_sem, n0, n1]
       ·obtain rfl := plc_no hpl hm
        have HSX : Hid (SeenP ((o :: ringsQ ps).take ((j + 1) + 1)) p sn) := by unfold Hid; rw [HTK.out]; exact SeenP.out HSN.out hm
        have HOG2 := Lib.hid (HOG.out.on HBA.out)
        have HV2 := Lib.hid (HVV.out.on HBA.out)
        have HE := Lib.hid (HPN.out (by rw [← HXP.out]; unfold clP; rw [repL_out hm]))
        clear hm hpl
        go_wp2
        go_roundg (l.length + 1 - (j + 1 + 1))
        case measure => have := HGK.out; omega
        case rel => exact ⟨j + 1 + 1, ox, Ax, cx, lx, sn, by omega, rfl, by first | rfl | go_num, by unfold Hid; rw [if_neg (by omega)]; exact HOX.out, by unfold Hid; rw [Nat.add_sub_cancel, HE.out]; exact HMX.out, HSX, HOG2.out, HV2.out⟩
     ·obtain rfl : k = l.length + 1 := by omega
      rw [if_neg (by omega)] at HOX
      rw [Nat.add_sub_cancel] at HMX
      have ej : ((l.length + 1 : Nat) : Int) - 1 = (l.length : Int) := by omega
      rw [ej] at hi
      subst hi
      have hox : repL o p [] = ox := HOX.out.symm
      subst hox
      have a3 : ¬ ((l.length : Int) < (l.length : Int)) := by omega
      have hmf : lx.map PV.par = ps.map (clP p) := by rw [HMX.out, List.take_of_length_le (by have := HPS.out; omega), List.drop_eq_nil_of_le (by have := HPS.out; omega), List.append_nil]
      have hlx : lx.length = l.length := by have := congrArg List.length hmf; rw [List.length_map, List.length_map, HPS.out] at this; exact this
      have hsm : ∀ x ∈ lx, x.par.ring.length ≤ 1000 ∧ x.par.own.size ≤ maxLen := fun x hx => by
       have hm : x.par ∈ ps.map (clP p) := by rw [← hmf]; exact List.mem_map_of_mem hx
       obtain ⟨y, hy, e⟩ := List.mem_map.1 hm
       rw [← e]
       have h1 := (HLQ.out y hy).1
       have h2 := repL_len y.ring [] p
       simp only [List.length_nil] at h2
       exact ⟨by show (repL y.ring p []).length ≤ 1000; omega, HOWP.out y hy⟩
      have hol := HPQ.out.outP.2.2
      have hol2 := repL_len o [] p
      simp only [List.length_nil] at hol2
      have hpl := Og.plan hog hlx.symm (by omega) (fun x hx => (hsm x hx).1)
      have hdn := done_own (repL o p []) Ax cx lx Ap1 cp1 (by have := HLL.out; omega) (by omega) (fun x hx => (hsm x hx).1) (fun x hx => (hsm x hx).2) wr hpl
      have e2 : (lx.map fun x => lsP x.par) = (ps.map (clP p)).map lsP := by
       rw [← hmf, List.map_map]
       rfl
      rw [e2, hlx] at hdn
      have HDN := Lib.hid hdn
      have HMS := Lib.hid (clear_same o ps p)
      have HED : Hid (idlB (ringsQ ps) p = true) := HID.out.2 (by
       have h1 := SeenP.done HSN.out
       rw [List.take_of_length_le (by have := HRS.out; omega)] at h1
       exact h1)
      have HQ9 := Lib.hid (HQ6.out.on hog.hold.1)
      clear hmf hlx hsm hol hol2 hpl hdn e2 hog hv HOX HSN HLS HOG HVV
      go_wp2_with fail
      go_at_call 32
      refine HDN.out.mono ?_
      rintro e' W9 ⟨hB, hd⟩
      have HQa := HQ9.out.on hB
      have hB0 := HQ9.out.1
      clear c0 c1 a3 HDN
      rcases hd with ⟨hc, rfl⟩ | ⟨hc, A2, c2, l2, Ap2, cp2, rfl, hm, h1, h2, h3⟩
      ·have HE := Lib.hid (cl_cross HCB.out HGP.out HBC.out HED.out (HMS.out.1.symm.trans hc))
       clear hc hB hB0
       have HQ2 := Lib.hid HQa
       clear HQa
       obtain ⟨y0, y1⟩ := HQ2.out.pt (.head _)
       obtain ⟨z0, z1⟩ := HQ2.out.fz (.head _)
       go_wp2
       have HE2 := HQ2.out.set2 (.slice none 0 0) (.slice none 0 0)
       obtain ⟨n0, n1⟩ := HE2.pt (.head _)
       refine bodyPost_ret (v := .tuple #[.agg #[.slice none 0 0, .slice none 0 0], .int .i64 8]) ?_ rfl ⟨HE2.1, .inl ⟨by first | (rw [HPX.out, HE.out]; decide) | (rw [HE.out]; decide), by first | rw [HPX.out, HE.out] | rw [HE.out]⟩⟩
       simp [results, Tryz.results17, go_sem, n0, n1]
      ·have HE := Lib.hid (cl_ok HCB.out HGP.out HBC.out HED.out (HMS.out.1.symm.trans hc))
       obtain ⟨e1, e2⟩ := HMS.out.2 hc
       rw [e1] at h1 ⊢
       rw [e2] at hm
       have hog := Og.mkSet HQa (h1.base hB0) (RowI.base h2 hB0) (OwnRs.base h3 hB0)
       have HOH := Lib.hid hog
       have HM2 := Lib.hid hm
       obtain ⟨y0, y1⟩ := HQa.pt (.head _)
       obtain ⟨z0, z1⟩ := HQa.fz (.head _)
       clear hc hB hB0 hog hm h1 h2 h3 HQa e1 e2
       go_wp2
       obtain ⟨n0, n1⟩ := HOH.out.hold.pt (.head _)
       refine bodyPost_ret (v := .tuple #[.agg #[.slice A2 (nmL (repL o p [])).length c2, .slice Ap2 l2.length cp2], .int .i64 0]) ?_ rfl ⟨HOH.out.hold.1, .inr ⟨by first | exact HE.out | (rw [HPX.out]; exact HE.out), A2, c2, Ap2, cp2, l2, rfl, by first | exact HM2.out | (rw [HPX.out]; exact HM2.out), HOH.out.out, HOH.out.row, HOH.out.rs⟩⟩
       simp [results, Tryz.results17, go_sem, n0, n1]
end Go.Proofs.YtfjfmieadedjoaaGreat

namespace Go.Proofs.YtfjfmieadedjoaaGreat
open Go.RowKit
set_option maxRecDepth 100000 in
set_option maxHeartbeats 20000000 in
theorem clears_walk (o : List (Int × Int)) (Ao : Option Addr) (co : Nat) (l : List PV) (Ap : Option Addr) (cp : Nat) (p : Int × Int) (hown : ∀ x ∈ l, x.par.own.size ≤ maxLen) (w : World) (h : PlanAt w o Ao co l Ap cp) :
  Calls Tryz.prog 5 #[.agg #[.slice Ao o.length co, .slice Ap l.length cp], .agg #[.int .i64 p.1, .int .i64 p.2]] w fun e w' => e = .returned (.bool true) ∧ Below w.heap.size w w' := by
 have HAN := Lib.hid (fun W => bend_answers W)
 have HFW := Lib.hid (fun K W (hh : Hold w K W) => few8_any o Ao co l Ap cp (by have := h.room; omega) W (h.prs.on hh.1))
 have HOWX := Lib.hid (fun (hl : l.length ≤ 80) W (hb : Below w.heap.size w W) => Own_own o Ao co l Ap cp (by omega) W (h.on hb))
 have HMKX : Hid (l.length ≤ 80 → ∀ (A1 : Option Addr) (c1 : Nat) (l' : List PV) (Ap1 : Option Addr) (cp1 : Nat) (W : World), l'.map PV.par = l.map PV.par → PlanAt W o A1 c1 l' Ap1 cp1 → Calls Tryz.prog 16 #[.agg #[.slice A1 o.length c1, .slice Ap1 l.length cp1], .agg #[.int .i64 p.1, .int .i64 p.2]] W fun e w' => MkAns W w' (clO o (l.map PV.par) p) (clQ o (l.map PV.par) p) (clE o (l.map PV.par) p) e) := fun hl A1 c1 l' Ap1 cp1 W hm hp => by
  have hlen : l'.length = l.length := par_len hm
  have hx := Clear_any o A1 c1 l' Ap1 cp1 p (by omega) (by have := h.room; omega) (own_par hm hown) W hp
  rw [hlen, hm] at hx
  exact hx.mono fun e w' hh => hh.ans
 have HRMX := Lib.hid (fun (hl : l.length ≤ 80) (ho : o.length ≤ 300) W (hb : Below w.heap.size w W) => (ref_clear o Ao co l Ap cp p (by omega) (by omega) hown W (h.on hb)).mono fun e w' hh => hh.ans)
 have HSM := Lib.hid (cl_small o (l.map PV.par) p)
 have HRG := Lib.hid (fun (l2 : List PV) (hm : l2.map PV.par = clQ o (l.map PV.par) p) => cl_rings hm)
 have HQ := ((Hold.refl w).new #[.slice Ao o.length co, .slice Ap l.length cp] 26).new' #[.int .i64 p.1, .int .i64 p.2] 28 (n := w.heap.size + 1) (by simp)
 clear h hown
 generalize clO o (l.map PV.par) p = on at *
 generalize clQ o (l.map PV.par) p = qs at *
 generalize clE o (l.map PV.par) p = er at *
 go_enter Tryz.func5, Tryz.ntmps5
 go_upto_region 1 with (fail)
 generalize (World.alloc _ _) = W1 at HQ ⊢
 generalize w.heap.size + 1 = g3 at HQ ⊢
 obtain ⟨g2, hg2⟩ : ∃ g, w.heap.size = g := ⟨_, rfl⟩
 rw [hg2] at HQ ⊢
 have HG2 := Lib.hid hg2
 clear hg2
 have HQ1 := Lib.hid HQ
 clear HQ
 go_wp2_with fail
 go_at_call 8
 refine (HAN.out _).mono ?_
 rintro e' W2 ⟨rfl, hB⟩
 have hq2 := HQ1.out.on hB
 obtain ⟨c0, c1⟩ := hq2.pt (.tail _ (.head _))
 have HQ2 := Lib.hid hq2
 clear hB hq2
 go_wp2_with fail
 go_at_call 9
 refine (HFW.out _ _ HQ2.out).mono ?_
 rintro e' W3 ⟨b, rfl, hb80, hB⟩
 have HQ3 := Lib.hid (HQ2.out.on hB)
 have HB80 := Lib.hid hb80
 clear c0 c1 hB hb80 HFW
 cases b
 ·go_wp2_with fail
  go_at_call 8
  refine (HAN.out _).mono ?_
  rintro e' W8 ⟨rfl, hB⟩
  have HQ8 := Lib.hid (HQ3.out.on hB)
  clear hB
  go_wp2
  go_ret
  exact ⟨rfl, HG2.out ▸ HQ8.out.1⟩
 ·have hbb := HB80.out (by first | trivial | rfl)
  have HOW := Lib.hid (HOWX.out hbb.2.2)
  have HMK := Lib.hid (HMKX.out hbb.2.2)
  have HRM := Lib.hid (HRMX.out hbb.2.2 hbb.1)
  clear HB80 hbb HOWX HMKX HRMX HAN
  go_upto_region 3 with (fail)
  go_cut [5, 6] (fun s5 s6 wx => ∃ g5 A2 c2 l2 Ap2 cp2, s5 = .pointer (some ⟨g5, 0, none⟩) ∧ s6 = .int .i64 er ∧ l2.map PV.par = qs ∧ Og w A2 on c2 Ap2 l2.length l2 cp2 g5 [(g3, #[.int .i64 p.1, .int .i64 p.2], 28), (g2, #[.slice Ao o.length co, .slice Ap l.length cp], 26)] wx)
  case first =>
   as_aux_lemma =>
    have h1 := HQ3.out.drew
    clear HRM HSM HRG
    refine wp_region_held_drew (S := fun W => W.cell? ⟨g2, 0, none⟩ = some (.slice Ao o.length co) ∧ W.cell? ⟨g2, 1, none⟩ = some (.slice Ap l.length cp) ∧ W.cell? ⟨g3, 0, none⟩ = some (.int .i64 p.1) ∧ W.cell? ⟨g3, 1, none⟩ = some (.int .i64 p.2)) (by kernel_rfl) ?_ (fun hHeld => ?_)
    ·(try dsimp only)
     exact Hold.two4 h1
    refine tZ 0 ?_; refine tZ 2 ?_
    generalize (World.drew _) = Wd at h1 hHeld ⊢
    refine wpAnyH_ready (rs := [1, 7]) (by decide +kernel) (by simp) ?_
    refine AllReadyH.cons rfl (fun K hK => ?_) (AllReadyH.cons rfl (fun K hK => ?_) AllReadyH.nil)
    ·(try simp only [jA, jB, jC])
     go_simp
     go_at_call 11
     refine (HOW.out _ h1.1).mono ?_
     rintro e' Wa ⟨hBa, A1, c1, l', Ap1, cp1, rfl, hm, hpa, -⟩
     have h2 := h1.on hBa
     refine hK.out _ _ ?_ (fun hHeld => ?_)
     focus ((try dsimp only); exact Hold.two4 h2; done)
     clear hK K
     (try simp only [Act.put, jA, jB, jC, jD, jE, jF])
     refine wpAnyH_ready (rs := [3, 7]) (by decide +kernel) (by simp) ?_
     refine AllReadyH.cons rfl (fun K hK => ?_) (AllReadyH.cons rfl (fun K hK => ?_) AllReadyH.nil)
     ·(try simp only [jA, jB, jC])
      go_simp
      go_at_call 16
      refine (HMK.out A1 c1 l' Ap1 cp1 _ hm hpa).mono ?_
      rintro e' Wb ⟨hBb, A2, c2, l2, Ap2, cp2, rfl, hm2, r1, r2, r3⟩
      have h3 := h2.on hBb
      have r1 := r1.base h2.1
      have r2 := RowI.base r2 h2.1
      have r3 := OwnRs.base r3 h2.1
      refine hK.out _ _ ?_ (fun hHeld => ?_)
      focus ((try dsimp only); exact Hold.two4 h3; done)
      clear hK K
      (try simp only [Act.put, jA, jB, jC, jD, jE, jF])
      refine tZ 4 ?_; refine tZ 5 ?_; refine tZ 6 ?_
      refine wpAnyH_ready (rs := [7]) (by decide +kernel) (by simp) ?_
      refine AllReadyH.cons rfl (fun K hK => ?_) AllReadyH.nil
      have h4 := h3.new #[.slice none 0 0, .slice none 0 0] 26
      have hbah4 := (Below.refl Wb.heap.size Wb).alloc (Nat.le_refl _) (Obj.cells #[.slice none 0 0, .slice none 0 0] 26 (0, 0))
      have r1 := r1.on hbah4
      have r2 := r2.on hbah4
      have r3 := r3.on hbah4
      (try simp only [jA, jB, jC])
      go_simp
      refine hK.out _ _ ?_ (fun hHeld => ?_)
      focus ((try dsimp only); exact Hold.two4 h4.tail; done)
      clear hK K
      (try simp only [Act.put, jA, jB, jC, jD, jE, jF])
      clear hbah4
      generalize (World.alloc _ _) = Wc at h4 r1 r2 r3 hHeld ⊢
      generalize Wb.heap.size = g5 at h4 ⊢
      obtain ⟨y0, y1⟩ := h4.pt (.head _)
      obtain ⟨z0, z1⟩ := h4.fz (.head _)
      have hog := Og.mkSet h4 r1 r2 r3
      refine wpAnyH_ready (rs := [8]) (by decide +kernel) (by simp) ?_
      refine AllReadyH.cons rfl (fun K hK => ?_) AllReadyH.nil
      (try simp only [jA, jB, jC])
      go_simp
      refine hK.out _ _ ?_ (fun hHeld => ?_)
      focus ((try dsimp only); exact Hold.two4 hog.hold.tail; done)
      clear hK K
      (try simp only [Act.put, jA, jB, jC, jD, jE, jF])
      refine tZ 9 ?_
      refine wpAnyH_done (by decide +kernel) ?_ _
      go_wp2_with fail
      go_meet
      exact ⟨_, A2, c2, l2, Ap2, cp2, rfl, rfl, hm2, hog⟩
     ·have h3 := h2.new #[.slice none 0 0, .slice none 0 0] 26
      have hbah3 := (Below.refl Wa.heap.size Wa).alloc (Nat.le_refl _) (Obj.cells #[.slice none 0 0, .slice none 0 0] 26 (0, 0))
      have hpa := hpa.on hbah3
      (try simp only [jA, jB, jC])
      go_simp
      refine hK.out _ _ ?_ (fun hHeld => ?_)
      focus ((try dsimp only); exact Hold.two4 h3.tail; done)
      clear hK K
      (try simp only [Act.put, jA, jB, jC, jD, jE, jF])
      clear hbah3
      generalize (World.alloc _ _) = Wb at h3 hpa hHeld ⊢
      generalize Wa.heap.size = g5 at h3 ⊢
      refine wpAnyH_ready (rs := [3]) (by decide +kernel) (by simp) ?_
      refine AllReadyH.cons rfl (fun K hK => ?_) AllReadyH.nil
      (try simp only [jA, jB, jC])
      go_simp
      go_at_call 16
      refine (HMK.out A1 c1 l' Ap1 cp1 _ hm hpa).mono ?_
      rintro e' Wc ⟨hBb, A2, c2, l2, Ap2, cp2, rfl, hm2, r1, r2, r3⟩
      have h4 := h3.on hBb
      have r1 := r1.base h3.1
      have r2 := RowI.base r2 h3.1
      have r3 := OwnRs.base r3 h3.1
      refine hK.out _ _ ?_ (fun hHeld => ?_)
      focus ((try dsimp only); exact Hold.two4 h4.tail; done)
      clear hK K
      (try simp only [Act.put, jA, jB, jC, jD, jE, jF])
      refine tZ 4 ?_; refine tZ 5 ?_; refine tZ 6 ?_
      obtain ⟨y0, y1⟩ := h4.pt (.head _)
      obtain ⟨z0, z1⟩ := h4.fz (.head _)
      have hog := Og.mkSet h4 r1 r2 r3
      refine wpAnyH_ready (rs := [8]) (by decide +kernel) (by simp) ?_
      refine AllReadyH.cons rfl (fun K hK => ?_) AllReadyH.nil
      (try simp only [jA, jB, jC])
      go_simp
      refine hK.out _ _ ?_ (fun hHeld => ?_)
      focus ((try dsimp only); exact Hold.two4 hog.hold.tail; done)
      clear hK K
      (try simp only [Act.put, jA, jB, jC, jD, jE, jF])
      refine tZ 9 ?_
      refine wpAnyH_done (by decide +kernel) ?_ _
      go_wp2_with fail
      go_meet
      exact ⟨_, A2, c2, l2, Ap2, cp2, rfl, rfl, hm2, hog⟩
    ·have h2 := h1.new #[.slice none 0 0, .slice none 0 0] 26
     have hbah2 := (Below.refl Wd.heap.size Wd).alloc (Nat.le_refl _) (Obj.cells #[.slice none 0 0, .slice none 0 0] 26 (0, 0))
     (try simp only [jA, jB, jC])
     go_simp
     refine hK.out _ _ ?_ (fun hHeld => ?_)
     focus ((try dsimp only); exact Hold.two4 h2.tail; done)
     clear hK K
     (try simp only [Act.put, jA, jB, jC, jD, jE, jF])
     clear hbah2
     generalize (World.alloc _ _) = We at h2 hHeld ⊢
     generalize Wd.heap.size = g5 at h2 ⊢
     refine wpAnyH_ready (rs := [1]) (by decide +kernel) (by simp) ?_
     refine AllReadyH.cons rfl (fun K hK => ?_) AllReadyH.nil
     (try simp only [jA, jB, jC])
     go_simp
     go_at_call 11
     refine (HOW.out _ h2.1).mono ?_
     rintro e' Wf ⟨hBa, A1, c1, l', Ap1, cp1, rfl, hm, hpa, -⟩
     have h3 := h2.on hBa
     refine hK.out _ _ ?_ (fun hHeld => ?_)
     focus ((try dsimp only); exact Hold.two4 h3.tail; done)
     clear hK K
     (try simp only [Act.put, jA, jB, jC, jD, jE, jF])
     refine wpAnyH_ready (rs := [3]) (by decide +kernel) (by simp) ?_
     refine AllReadyH.cons rfl (fun K hK => ?_) AllReadyH.nil
     (try simp only [jA, jB, jC])
     go_simp
     go_at_call 16
     refine (HMK.out A1 c1 l' Ap1 cp1 _ hm hpa).mono ?_
     rintro e' Wg ⟨hBb, A2, c2, l2, Ap2, cp2, rfl, hm2, r1, r2, r3⟩
     have h4 := h3.on hBb
     have r1 := r1.base h3.1
     have r2 := RowI.base r2 h3.1
     have r3 := OwnRs.base r3 h3.1
     refine hK.out _ _ ?_ (fun hHeld => ?_)
     focus ((try dsimp only); exact Hold.two4 h4.tail; done)
     clear hK K
     (try simp only [Act.put, jA, jB, jC, jD, jE, jF])
     refine tZ 4 ?_; refine tZ 5 ?_; refine tZ 6 ?_
     obtain ⟨y0, y1⟩ := h4.pt (.head _)
     obtain ⟨z0, z1⟩ := h4.fz (.head _)
     have hog := Og.mkSet h4 r1 r2 r3
     refine wpAnyH_ready (rs := [8]) (by decide +kernel) (by simp) ?_
     refine AllReadyH.cons rfl (fun K hK => ?_) AllReadyH.nil
     (try simp only [jA, jB, jC])
     go_simp
     refine hK.out _ _ ?_ (fun hHeld => ?_)
     focus ((try dsimp only); exact Hold.two4 hog.hold.tail; done)
     clear hK K
     (try simp only [Act.put, jA, jB, jC, jD, jE, jF])
     refine tZ 9 ?_
     refine wpAnyH_done (by decide +kernel) ?_ _
     go_wp2_with fail
     go_meet
     exact ⟨_, A2, c2, l2, Ap2, cp2, rfl, rfl, hm2, hog⟩
  case rest =>
   clear HOW HMK
   obtain ⟨g5, A2, c2, l2, Ap2, cp2, rfl, rfl, hm2, hog⟩ := hcut
   have HOG := Lib.hid hog
   have HM2 := Lib.hid hm2
   obtain ⟨c0, c1⟩ := hog.hold.pt (.tail _ (.tail _ (.head _)))
   obtain ⟨d0, d1⟩ := hog.hold.pt (.tail _ (.head _))
   clear hog hm2
   go_upto_region 5 with (go_at_call 17; go_must (refine (HRM.out _ HOG.out.hold.1).mono ?_; rintro e' W5 ⟨hB5, A3, c3, l3, Ap3, cp3, rfl, hm3, r1, r2, r3⟩; have hog5 := HOG.out.on hB5; have hoh := Og.mkNew hog5.hold (r1.base HOG.out.hold.1) (RowI.base r2 HOG.out.hold.1) (OwnRs.base r3 HOG.out.hold.1); have hog6 := hog5.on ((Below.refl _ W5).alloc (Nat.le_refl _) (Obj.cells #[.slice A3 on.length c3, .slice Ap3 l3.length cp3] 26 (0, 0))); have HM3 := Lib.hid hm3; clear hB5 hog5 hm3 r1 r2 r3))
   clear c0 c1 d0 d1
   generalize (World.alloc _ _) = W6 at hoh hog6 ⊢
   generalize (World.heap _).size = g7 at hoh ⊢
   have hlen2 : l2.length ≤ 1000000 := by
    have h1 := congrArg List.length HM2.out
    rw [List.length_map] at h1
    have := HSM.out.2
    omega
   have hsm := HSM.out.1
   have hpl2 := hog6.plan rfl (by omega) (HRG.out l2 HM2.out)
   have hpl3 := hoh.plan rfl (by omega) (HRG.out l3 HM3.out)
   have hx := ref_samePlan on on A2 c2 l2 Ap2 cp2 A3 c3 l3 Ap3 cp3 (by unfold maxLen; omega) (by omega) _ hpl2.prs hpl3.prs hpl2.out hpl3.out
   rw [show decide (on = on ∧ l2.map PV.par = l3.map PV.par) = true from decide_eq_true ⟨rfl, HM2.out.trans HM3.out.symm⟩] at hx
   have HSA := Lib.hid hx
   obtain ⟨c0, c1⟩ := hoh.hold.pt (.head _)
   obtain ⟨d0, d1⟩ := hoh.hold.pt (.tail _ (.head _))
   have HB := Lib.hid hoh.hold.1
   have e0 : (er == er) = true := beq_self_eq_true _
   clear hlen2 hsm hpl2 hpl3 hx hoh hog6
   go_wp2_with fail
   go_at_call 13
   refine HSA.out.mono ?_
   rintro e' W8 ⟨rfl, hB⟩
   have HB8 := Lib.hid (HB.out.trans (hB.mono HB.out.size))
   clear hB c0 c1 d0 d1
   go_wp2
   go_ret
   exact ⟨rfl, HG2.out ▸ HB8.out⟩
end Go.Proofs.YtfjfmieadedjoaaGreat
