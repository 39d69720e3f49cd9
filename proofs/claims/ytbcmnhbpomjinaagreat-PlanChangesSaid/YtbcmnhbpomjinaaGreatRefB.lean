/- The contracts of the document's own answers: sums and differences of 128-bit integers by parts of 32 bits. -/
import Derived.Test.YtbcmnhbpomjinaaGreatHold
import Derived.Test.YtbcmnhbpomjinaaGreatRefA
import Derived.Deep.DeepCutAuto
namespace Go.Proofs.YtbcmnhbpomjinaaGreat
open Go.RowKit

/-- Known pairs in blocks of the call's own, each made behind those that follow in the list. -/
def Own (w : World) (L : List (Nat × Int × Int)) (W : World) : Prop := Has w L W ∧ L.Pairwise (fun a b => b.1 < a.1) ∧ ∀ e ∈ L, w.heap.size ≤ e.1
section
variable {w W W' : World} {L : List (Nat × Int × Int)}
theorem Own.refl (w : World) : Own w [] w := ⟨Has.refl w, List.Pairwise.nil, fun _ h => by cases h⟩
theorem Own.on (h : Own w L W) (hb : Below W.heap.size W W') : Own w L W' := ⟨h.1.on hb, h.2⟩
theorem Own.drew (h : Own w L W) : Own w L W.drew := ⟨h.1.drew, h.2⟩
theorem Own.drewN (h : Own w L W) (n : Nat) : Own w L (W.drewN n) := ⟨h.1.drewN n, h.2⟩
theorem Own.new (h : Own w L W) (a b : Int) : Own w ((W.heap.size, a, b) :: L) (W.alloc (Obj.cells #[.int .i64 a, .int .u64 b] 65)) :=
  ⟨h.1.new a b, List.Pairwise.cons (fun e he => blk_lt (h.1.2 e he)) h.2.1, fun e he => by
    rcases List.mem_cons.1 he with rfl | he
    · exact h.1.1.size
    · exact h.2.2 e he⟩
theorem Own.new' (h : Own w L W) (a b : Int) {n : Nat} (hn : n = W.heap.size) : Own w ((n, a, b) :: L) (W.alloc (Obj.cells #[.int .i64 a, .int .u64 b] 65)) := by
  subst hn; exact h.new a b
theorem Own.newDrew (h : Own w L W) (a b : Int) : Own w ((W.heap.size, a, b) :: L) (W.drew.alloc (Obj.cells #[.int .i64 a, .int .u64 b] 65)) := h.drew.new' a b rfl
theorem Own.store {g : Nat} {a b : Int} (h : Own w ((g, a, b) :: L) W) (x y : Int) : Own w ((g, x, y) :: L) ((W.setCell ⟨g, 0, none⟩ (.int .i64 x)).setCell ⟨g, 1, none⟩ (.int .u64 y)) := by
  obtain ⟨⟨hb, hL⟩, hp, hw⟩ := h
  have hg := hw _ (List.mem_cons_self ..)
  refine ⟨⟨(hb.setCell hg _).setCell hg _, fun e he => ?_⟩, List.Pairwise.cons (fun e he => List.rel_of_pairwise_cons hp he) hp.of_cons, fun e he => ?_⟩
  · rcases List.mem_cons.1 he with rfl | he
    · exact set_pair (hL _ (List.mem_cons_self ..)) _ _
    · have hlt : e.1 < g := List.rel_of_pairwise_cons hp he
      exact (set_far (by omega) _ _).trans (hL _ (List.mem_cons_of_mem _ he))
  · rcases List.mem_cons.1 he with rfl | he
    · exact hg
    · exact hw _ (List.mem_cons_of_mem _ he)
theorem Own.two {g g' : Nat} {a b a' b' : Int} (h : Own w L W) (m : (g, a, b) ∈ L) (m' : (g', a', b') ∈ L) : W.cell? ⟨g, 0, none⟩ = some (.int .i64 a) ∧ W.cell? ⟨g, 1, none⟩ = some (.int .u64 b) ∧ W.cell? ⟨g', 0, none⟩ = some (.int .i64 a') ∧ W.cell? ⟨g', 1, none⟩ = some (.int .u64 b') :=
  ⟨(h.1.look m).1, (h.1.look m).2, (h.1.look m').1, (h.1.look m').2⟩
theorem Own.head {g : Nat} {a b : Int} (h : Own w ((g, a, b) :: L) W) : W.cell? ⟨g, 0, none⟩ = some (.int .i64 a) ∧ W.cell? ⟨g, 1, none⟩ = some (.int .u64 b) ∧ W.frozen? ⟨g, 0, none⟩ = false ∧ W.frozen? ⟨g, 1, none⟩ = false :=
  (pair_facts (h.1.2 _ (List.mem_cons_self ..))).1
theorem Own.fz {g : Nat} {a b : Int} (h : Own w L W) (m : (g, a, b) ∈ L) : W.frozen? ⟨g, 0, none⟩ = false ∧ W.frozen? ⟨g, 1, none⟩ = false :=
  ⟨(pair_facts (h.1.2 _ m)).1.2.2.1, (pair_facts (h.1.2 _ m)).1.2.2.2⟩
end

theorem ref_add_words {h l h' l' : Int} (wf : Wf h l) (wf' : Wf h' l') : wOk (val h l + val h' l') = pFit h l h' l' ∧ (pFit h l h' l' = true → wHi (val h l + val h' l') = pHi h l h' l' ∧ wLo (val h l + val h' l') = pLo l l') := by
  have v1 := wf_val wf
  have v2 := wf_val wf'
  have ho : wOk (val h l + val h' l') = decide (InR (val h l + val h' l')) := by
    unfold InR at v1 v2
    exact whole_ok (by omega) (by omega)
  have hf := plus_fit wf wf'
  have e : (val h l + val h' l') = val h l + val h' l' := by omega
  rw [e] at ho ⊢
  rw [ho, hf]
  refine ⟨rfl, fun ht => ?_⟩
  have hr := of_decide_eq_true ht
  exact val_inj (whole_wf _) plus_wf ((whole_val hr).trans (plus_val wf wf' hr).symm)

set_option maxRecDepth 100000 in
set_option maxHeartbeats 2000000 in
theorem ref_add (h l h' l' : Int) (wf : Wf h l) (wf' : Wf h' l') (w : World) :
    Calls Tryz.prog 38 #[.agg #[.int .i64 h, .int .u64 l], .agg #[.int .i64 h', .int .u64 l']] w fun e w' => e = .returned (.tuple #[.agg #[.int .i64 (aH h l h' l'), .int .u64 (aL h l h' l')], .int .i64 (aE h l h' l')]) ∧ Below w.heap.size w w' := by
  obtain ⟨wo, wv⟩ := ref_add_words wf wf'
  have WO := Lib.hid wo
  have WV := Lib.hid wv
  clear wo wv
  go_enter Tryz.func38, Tryz.ntmps38
  go_upto_region 1 with (fail)
  have HS := (((Own.refl w).new h l).new' h' l' (n := w.heap.size + 1) (by simp)).new' 0 0 (n := w.heap.size + 1 + 1) (by simp)
  generalize (((w.alloc _).alloc _).alloc _) = W at HS ⊢
  generalize w.heap.size + 1 + 1 = g4 at HS ⊢
  generalize w.heap.size + 1 = g3 at HS ⊢
  have hg2 : w.heap.size ≤ w.heap.size := Nat.le_refl _
  go_cut [6, 7] (fun s6 s7 wx => ∃ g, s6 = .pointer (some ⟨g, 0, none⟩) ∧ s7 = .bool (wOk (val h l + val h' l')) ∧ Own w [(g, wHi (val h l + val h' l'), wLo (val h l + val h' l')), (g4, 0, 0), (g3, h', l'), (w.heap.size, h, l)] wx)
  case first =>
    obtain ⟨f1, f2, f3, f4⟩ := HS.two (g := w.heap.size) (g' := g3) (a := h) (b := l) (a' := h') (b' := l') (by simp) (by simp)
    clear hg2
    go_region_held3 (fun W => W.cell? ⟨w.heap.size, 0, none⟩ = some (.int .i64 h) ∧ W.cell? ⟨w.heap.size, 1, none⟩ = some (.int .u64 l) ∧ W.cell? ⟨g3, 0, none⟩ = some (.int .i64 h') ∧ W.cell? ⟨g3, 1, none⟩ = some (.int .u64 l'))
      ((first
        | exact Own.two (by assumption) (by simp) (by simp)
        | exact Own.two (Own.drew (by assumption)) (by simp) (by simp)
        | exact Own.two (Own.newDrew (by assumption) 0 0) (by simp) (by simp)
        | exact Own.two (Own.new (by assumption) _ _) (by simp) (by simp)
        | exact Own.two (Own.store (by assumption) _ _) (by simp) (by simp)))
      (first
        | (go_at_call 77; refine (limbs_any _ _ (by first | exact wf | exact wf') _).mono ?_; rintro e w' ⟨rfl, hB⟩; have HS' := Own.on (by first | assumption | exact Own.drew (by assumption) | exact Own.new (by assumption) 0 0 | exact Own.newDrew (by assumption) 0 0) hB; obtain ⟨z0, z1, z2, z3⟩ := HS'.head)
        | (go_at_call 76; refine (plus_lim _ _ _).mono ?_; rintro e w' ⟨rfl, hB⟩; have HS' := Own.on (by first | assumption | exact Own.drew (by assumption) | exact Own.new (by assumption) 0 0 | exact Own.newDrew (by assumption) 0 0) hB; obtain ⟨z0, z1, z2, z3⟩ := HS'.head)
        | (go_at_call 75; refine (whole_lim _ _).mono ?_; rintro e w' ⟨rfl, hB⟩; have HS' := Own.on (by first | assumption | exact Own.drew (by assumption) | exact Own.new (by assumption) 0 0 | exact Own.newDrew (by assumption) 0 0) hB; obtain ⟨z0, z1, z2, z3⟩ := HS'.head))
    all_goals
      go_wp2_with fail
      go_meet
      exact ⟨_, rfl, rfl, by first | exact Own.store (by assumption) _ _ | exact Own.new (by assumption) _ _⟩
  case rest =>
    obtain ⟨g, rfl, rfl, HQ⟩ := hcut
    rw [WO.out]
    have hd := HQ.head
    have hz := HQ.1.look (g := g4) (a := 0) (b := 0) (by simp)
    have hf := HQ.fz (g := g4) (a := 0) (b := 0) (by simp)
    obtain ⟨d0, d1, d2, d3⟩ := hd
    obtain ⟨z0, z1⟩ := hz
    obtain ⟨y0, y1⟩ := hf
    have hb := HQ.1.1
    have hge : w.heap.size ≤ g4 := HQ.2.2 (g4, 0, 0) (by simp)
    clear HS
    cases hc : pFit h l h' l'
    · have HG : Hid (aH h l h' l' = 0 ∧ aL h l h' l' = 0 ∧ aE h l h' l' = 3) := by unfold Hid aH aL aE; rw [hc]; exact ⟨rfl, rfl, rfl⟩
      go_wp2
      refine bodyPost_ret (v := .tuple #[.agg #[.int .i64 0, .int .u64 0], .int .i64 3]) ?_ rfl ⟨?_, ?_⟩
      · simp [results, Tryz.results38, go_sem, z0, z1, World.cell?_setCell_other, World.cell?_setCell_same']
      · rw [HG.out.1, HG.out.2.1, HG.out.2.2]
      · exact (hb.setCell hge _).setCell hge _
    · have hw := WV.out hc
      have HG : Hid (aH h l h' l' = wHi (val h l + val h' l') ∧ aL h l h' l' = wLo (val h l + val h' l') ∧ aE h l h' l' = 0) := by unfold Hid aH aL aE; rw [hc, hw.1, hw.2]; exact ⟨rfl, rfl, rfl⟩
      clear hw
      go_wp2
      refine bodyPost_ret (v := .tuple #[.agg #[.int .i64 (wHi (val h l + val h' l')), .int .u64 (wLo (val h l + val h' l'))], .int .i64 0]) ?_ rfl ⟨?_, ?_⟩
      · simp [results, Tryz.results38, go_sem, z0, z1, World.cell?_setCell_other, World.cell?_setCell_same']
      · rw [HG.out.1, HG.out.2.1, HG.out.2.2]
      · exact (hb.setCell hge _).setCell hge _

theorem ref_sub_words {h l h' l' : Int} (wf : Wf h l) (wf' : Wf h' l') : wOk (val h l + -val h' l') = mFit h l h' l' ∧ (mFit h l h' l' = true → wHi (val h l + -val h' l') = mHi h l h' l' ∧ wLo (val h l + -val h' l') = mLo l l') := by
  have v1 := wf_val wf
  have v2 := wf_val wf'
  have ho : wOk (val h l + -val h' l') = decide (InR (val h l + -val h' l')) := by
    unfold InR at v1 v2
    exact whole_ok (by omega) (by omega)
  have hf := minus_fit wf wf'
  have e : (val h l + -val h' l') = val h l - val h' l' := by omega
  rw [e] at ho ⊢
  rw [ho, hf]
  refine ⟨rfl, fun ht => ?_⟩
  have hr := of_decide_eq_true ht
  exact val_inj (whole_wf _) minus_wf ((whole_val hr).trans (minus_val wf wf' hr).symm)

set_option maxRecDepth 100000 in
set_option maxHeartbeats 2000000 in
theorem ref_sub (h l h' l' : Int) (wf : Wf h l) (wf' : Wf h' l') (w : World) :
    Calls Tryz.prog 74 #[.agg #[.int .i64 h, .int .u64 l], .agg #[.int .i64 h', .int .u64 l']] w fun e w' => e = .returned (.tuple #[.agg #[.int .i64 (bH h l h' l'), .int .u64 (bL h l h' l')], .int .i64 (bE h l h' l')]) ∧ Below w.heap.size w w' := by
  obtain ⟨wo, wv⟩ := ref_sub_words wf wf'
  have WO := Lib.hid wo
  have WV := Lib.hid wv
  clear wo wv
  go_enter Tryz.func74, Tryz.ntmps74
  go_upto_region 1 with (fail)
  have HS := (((Own.refl w).new h l).new' h' l' (n := w.heap.size + 1) (by simp)).new' 0 0 (n := w.heap.size + 1 + 1) (by simp)
  generalize (((w.alloc _).alloc _).alloc _) = W at HS ⊢
  generalize w.heap.size + 1 + 1 = g4 at HS ⊢
  generalize w.heap.size + 1 = g3 at HS ⊢
  have hg2 : w.heap.size ≤ w.heap.size := Nat.le_refl _
  go_cut [6, 7] (fun s6 s7 wx => ∃ g, s6 = .pointer (some ⟨g, 0, none⟩) ∧ s7 = .bool (wOk (val h l + -val h' l')) ∧ Own w [(g, wHi (val h l + -val h' l'), wLo (val h l + -val h' l')), (g4, 0, 0), (g3, h', l'), (w.heap.size, h, l)] wx)
  case first =>
    obtain ⟨f1, f2, f3, f4⟩ := HS.two (g := w.heap.size) (g' := g3) (a := h) (b := l) (a' := h') (b' := l') (by simp) (by simp)
    clear hg2
    go_region_held3 (fun W => W.cell? ⟨w.heap.size, 0, none⟩ = some (.int .i64 h) ∧ W.cell? ⟨w.heap.size, 1, none⟩ = some (.int .u64 l) ∧ W.cell? ⟨g3, 0, none⟩ = some (.int .i64 h') ∧ W.cell? ⟨g3, 1, none⟩ = some (.int .u64 l'))
      ((first
        | exact Own.two (by assumption) (by simp) (by simp)
        | exact Own.two (Own.drew (by assumption)) (by simp) (by simp)
        | exact Own.two (Own.newDrew (by assumption) 0 0) (by simp) (by simp)
        | exact Own.two (Own.new (by assumption) _ _) (by simp) (by simp)
        | exact Own.two (Own.store (by assumption) _ _) (by simp) (by simp)))
      (first
        | (go_at_call 77; refine (limbs_any _ _ (by first | exact wf | exact wf') _).mono ?_; rintro e w' ⟨rfl, hB⟩; have HS' := Own.on (by first | assumption | exact Own.drew (by assumption) | exact Own.new (by assumption) 0 0 | exact Own.newDrew (by assumption) 0 0) hB; obtain ⟨z0, z1, z2, z3⟩ := HS'.head)
        | (go_at_call 76; refine (plus_lim _ _ _).mono ?_; rintro e w' ⟨rfl, hB⟩; have HS' := Own.on (by first | assumption | exact Own.drew (by assumption) | exact Own.new (by assumption) 0 0 | exact Own.newDrew (by assumption) 0 0) hB; obtain ⟨z0, z1, z2, z3⟩ := HS'.head)
        | (go_at_call 97; refine (minus_lim _ _).mono ?_; rintro e w' ⟨rfl, hB⟩; have HS' := Own.on (by first | assumption | exact Own.drew (by assumption) | exact Own.new (by assumption) 0 0 | exact Own.newDrew (by assumption) 0 0) hB; obtain ⟨z0, z1, z2, z3⟩ := HS'.head)
        | (go_at_call 75; refine (whole_lim _ _).mono ?_; rintro e w' ⟨rfl, hB⟩; have HS' := Own.on (by first | assumption | exact Own.drew (by assumption) | exact Own.new (by assumption) 0 0 | exact Own.newDrew (by assumption) 0 0) hB; obtain ⟨z0, z1, z2, z3⟩ := HS'.head))
    all_goals
      go_wp2_with fail
      go_meet
      exact ⟨_, rfl, rfl, by first | exact Own.store (by assumption) _ _ | exact Own.new (by assumption) _ _⟩
  case rest =>
    obtain ⟨g, rfl, rfl, HQ⟩ := hcut
    rw [WO.out]
    have hd := HQ.head
    have hz := HQ.1.look (g := g4) (a := 0) (b := 0) (by simp)
    have hf := HQ.fz (g := g4) (a := 0) (b := 0) (by simp)
    obtain ⟨d0, d1, d2, d3⟩ := hd
    obtain ⟨z0, z1⟩ := hz
    obtain ⟨y0, y1⟩ := hf
    have hb := HQ.1.1
    have hge : w.heap.size ≤ g4 := HQ.2.2 (g4, 0, 0) (by simp)
    clear HS
    cases hc : mFit h l h' l'
    · have HG : Hid (bH h l h' l' = 0 ∧ bL h l h' l' = 0 ∧ bE h l h' l' = 3) := by unfold Hid bH bL bE; rw [hc]; exact ⟨rfl, rfl, rfl⟩
      go_wp2
      refine bodyPost_ret (v := .tuple #[.agg #[.int .i64 0, .int .u64 0], .int .i64 3]) ?_ rfl ⟨?_, ?_⟩
      · simp [results, Tryz.results74, go_sem, z0, z1, World.cell?_setCell_other, World.cell?_setCell_same']
      · rw [HG.out.1, HG.out.2.1, HG.out.2.2]
      · exact (hb.setCell hge _).setCell hge _
    · have hw := WV.out hc
      have HG : Hid (bH h l h' l' = wHi (val h l + -val h' l') ∧ bL h l h' l' = wLo (val h l + -val h' l') ∧ bE h l h' l' = 0) := by unfold Hid bH bL bE; rw [hc, hw.1, hw.2]; exact ⟨rfl, rfl, rfl⟩
      clear hw
      go_wp2
      refine bodyPost_ret (v := .tuple #[.agg #[.int .i64 (wHi (val h l + -val h' l')), .int .u64 (wLo (val h l + -val h' l'))], .int .i64 0]) ?_ rfl ⟨?_, ?_⟩
      · simp [results, Tryz.results74, go_sem, z0, z1, World.cell?_setCell_other, World.cell?_setCell_same']
      · rw [HG.out.1, HG.out.2.1, HG.out.2.2]
      · exact (hb.setCell hge _).setCell hge _

end Go.Proofs.YtbcmnhbpomjinaaGreat
