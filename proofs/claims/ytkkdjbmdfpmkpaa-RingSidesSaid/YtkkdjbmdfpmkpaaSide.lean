/- The contract of the program's call Side. -/
import Derived.Test.YtkkdjbmdfpmkpaaCheck
namespace Go.Proofs.Ytkkdjbmdfpmkpaa
open Go.RowKit Go.Shelf

attribute [local go_sem] Oper.semAt_some

def passAt (ps : List (Int × Int)) (p : Int × Int) (i : Nat) : Int := psv (nx ps i) (nx ps (i + 1)) p
def passes (ps : List (Int × Int)) (p : Int × Int) (L : List (Fin ps.length)) : Int := (L.map (fun x => passAt ps p x.1)).sum
theorem passAt_lim (ps : List (Int × Int)) (p : Int × Int) (i : Nat) : -1 ≤ passAt ps p i ∧ passAt ps p i ≤ 1 := by
  unfold passAt psv; split <;> (try split) <;> omega
theorem passes_snoc (ps : List (Int × Int)) (p : Int × Int) (L : List (Fin ps.length)) (x : Fin ps.length) : passes ps p (L ++ [x]) = passes ps p L + passAt ps p x.1 := by
  unfold passes; simp [List.sum_append]
theorem passes_lim (ps : List (Int × Int)) (p : Int × Int) : ∀ L : List (Fin ps.length), -(L.length : Int) ≤ passes ps p L ∧ passes ps p L ≤ L.length
  | [] => by unfold passes; simp
  | x :: L => by
    have h1 := passes_lim ps p L
    have h2 := passAt_lim ps p x.1
    have e : passes ps p (x :: L) = passAt ps p x.1 + passes ps p L := by unfold passes; simp
    rw [e, List.length_cons]
    omega
theorem passes_take (ps : List (Int × Int)) (p : Int × Int) : ∀ k, k ≤ ps.length → passes ps p ((List.finRange ps.length).take k) = sumTo (passAt ps p) k
  | 0, _ => by unfold passes; simp [sumTo]
  | k + 1, h => by rw [take_next (by omega), passes_snoc, passes_take ps p k (by omega)]; rfl
theorem passes_all (ps : List (Int × Int)) (p : Int × Int) : passes ps p (List.finRange ps.length) = wind ps p := by
  have := passes_take ps p ps.length (Nat.le_refl _)
  rw [List.take_of_length_le (by simp)] at this
  exact this

theorem Hold.pair_set {w W : World} {L : List (Nat × Array Value × TypeId)} {g1 g2 : Nat} {t1 t2 : TypeId} {a b : Value} (h : Hold w ((g2, #[a], t2) :: (g1, #[b], t1) :: L) W) (y x : Value) :
    Hold w ((g2, #[x], t2) :: (g1, #[y], t1) :: L) ((W.setCell ⟨g1, 0, none⟩ y).setCell ⟨g2, 0, none⟩ x) := (Hold.put (L1 := [(g2, #[a], t2)]) h 0 y).set 0 x

set_option maxRecDepth 100000 in
set_option maxHeartbeats 1000000 in
theorem side_bad (ps : List (Int × Int)) (A : Option Addr) (cap : Nat) (p : Int × Int) (hn : ps.length ≤ maxLen) (hc : chE ps ≠ 0) (w : World) (hr : Pts w w.heap.size A ps) :
    Calls Try.prog 15 #[.slice A ps.length cap, .agg #[.int .i64 p.1, .int .i64 p.2]] w fun e w' => e = .returned (.tuple #[.int .i64 0, .int .i64 (chE ps)]) ∧ Below w.heap.size w w' := by
  have HQ := (((Hold.refl w).new #[.int .i64 p.1, .int .i64 p.2] 35).new' #[.int .i64 0] 3 (n := w.heap.size + 1) (by simp)).new' #[.int .i64 0] 27 (n := w.heap.size + 1 + 1) (by simp)
  have HA := Lib.hid (Check_any ps A cap hn _ (hr.on HQ.1))
  generalize chE ps = c at *
  go_enter Try.func15, Try.ntmps15
  go_wp2_with (go_at_call 13; go_must (with_reducible refine (HA.out).mono ?_; rintro e w1 ⟨rfl, hB⟩; have HQ1 := HQ.on hB; obtain ⟨y0, z0⟩ := HQ1.top1; obtain ⟨y1, z1⟩ := HQ1.tail.top1))
  have HE := HQ1.pair_set (.int .i64 0) (.int .i64 c)
  obtain ⟨n1, -⟩ := HE.top1
  obtain ⟨n2, -⟩ := HE.tail.top1
  refine bodyPost_ret (v := .tuple #[.int .i64 0, .int .i64 c]) ?_ rfl ⟨rfl, HE.1⟩
  simp [results, Try.results15, go_sem, n1, n2]
theorem good_lone (p : Int × Int) (cap : Nat) (t : TypeId) (w : World) (W : World) (h : W = w.alloc (Obj.cells #[.int .i64 p.1, .int .i64 p.2] t (0, 0))) :
    Calls Try.prog 25 #[.slice (some ⟨w.heap.size, 0, none⟩) 1 cap] W fun e w' => e = .returned (.bool (gd p)) ∧ Below W.heap.size W w' := by
  subst h
  have := good_any [p] (some ⟨w.heap.size, 0, none⟩) cap _ (by unfold maxLen; simp) (pts_of (heap_alloc_new w (Obj.cells #[.int .i64 p.1, .int .i64 p.2] t (0, 0))) (by simp))
  have e : gdL [p] = gd p := by simp [gdL]
  rw [e] at this
  exact this

set_option maxRecDepth 100000 in
set_option maxHeartbeats 1000000 in
theorem side_far (ps : List (Int × Int)) (A : Option Addr) (cap : Nat) (p : Int × Int) (hn : ps.length ≤ maxLen) (hc : chE ps = 0) (hp : gd p = false) (w : World) (hr : Pts w w.heap.size A ps) :
    Calls Try.prog 15 #[.slice A ps.length cap, .agg #[.int .i64 p.1, .int .i64 p.2]] w fun e w' => e = .returned (.tuple #[.int .i64 0, .int .i64 3]) ∧ Below w.heap.size w w' := by
  have HQ := (((Hold.refl w).new #[.int .i64 p.1, .int .i64 p.2] 35).new' #[.int .i64 0] 3 (n := w.heap.size + 1) (by simp)).new' #[.int .i64 0] 27 (n := w.heap.size + 1 + 1) (by simp)
  have HA := Lib.hid (Check_any ps A cap hn _ (hr.on HQ.1))
  rw [hc] at HA
  have HG := Lib.hid (fun t w W h => good_lone p 1 t w W h)
  rw [hp] at HG
  go_enter Try.func15, Try.ntmps15
  go_wp2_with (first
    | (go_at_call 13; go_must (with_reducible refine (HA.out).mono ?_; rintro e w1 ⟨rfl, hB⟩; have HQ1 := HQ.on hB; obtain ⟨q0, q1, -, -⟩ := HQ1.tail.tail.top))
    | (go_at_call 25; go_must (with_reducible refine (HG.out _ _ _ rfl).mono ?_; rintro e w2 ⟨rfl, hB2⟩; have HQ2 := (HQ1.alloc _).on hB2; obtain ⟨y0, z0⟩ := HQ2.top1; obtain ⟨y1, z1⟩ := HQ2.tail.top1)))
  have HE := HQ2.pair_set (.int .i64 0) (.int .i64 3)
  obtain ⟨n1, -⟩ := HE.top1
  obtain ⟨n2, -⟩ := HE.tail.top1
  refine bodyPost_ret (v := .tuple #[.int .i64 0, .int .i64 3]) ?_ rfl ⟨rfl, HE.1⟩
  simp [results, Try.results15, go_sem, n1, n2]

/-- The blocks of the call's own that stay: the loop's iterator, the count, both results, the point. -/
def SideBlk (w : World) (A : Option Addr) (n cap : Nat) (p : Int × Int) (g : Nat) (v : Int) (W : World) : Prop :=
  Hold w [(g + 1, #[.slice A n cap], 23), (g, #[.int .i64 v], 3), (w.heap.size + 1 + 1, #[.int .i64 0], 27), (w.heap.size + 1, #[.int .i64 0], 3), (w.heap.size, #[.int .i64 p.1, .int .i64 p.2], 35)] W
section
variable {w W W' : World} {A : Option Addr} {n cap g : Nat} {p : Int × Int} {v : Int}
theorem SideBlk.h (h : SideBlk w A n cap p g v W) : Hold w [(g + 1, #[.slice A n cap], 23), (g, #[.int .i64 v], 3), (w.heap.size + 1 + 1, #[.int .i64 0], 27), (w.heap.size + 1, #[.int .i64 0], 3), (w.heap.size, #[.int .i64 p.1, .int .i64 p.2], 35)] W := h
theorem SideBlk.on (h : SideBlk w A n cap p g v W) (hb : Below W.heap.size W W') : SideBlk w A n cap p g v W' := Hold.on (w := w) (W := W) h hb
end

set_option maxRecDepth 100000 in
set_option maxHeartbeats 8000000 in
theorem side_good (ps : List (Int × Int)) (A : Option Addr) (cap : Nat) (p : Int × Int) (hc : chE ps = 0) (hp : gd p = true) (w : World) (hr : Pts w w.heap.size A ps) :
    Calls Try.prog 15 #[.slice A ps.length cap, .agg #[.int .i64 p.1, .int .i64 p.2]] w fun e w' => e = .returned (.tuple #[.int .i64 (sideW ps p), .int .i64 0]) ∧ Below w.heap.size w w' := by
  obtain ⟨hn, hg⟩ := arE_zero.1 (chE_zero.1 hc).1
  have hgp := gd_iff.1 hp
  have HQ := (((Hold.refl w).new #[.int .i64 p.1, .int .i64 p.2] 35).new' #[.int .i64 0] 3 (n := w.heap.size + 1) (by simp)).new' #[.int .i64 0] 27 (n := w.heap.size + 1 + 1) (by simp)
  have HA := Lib.hid (Check_any ps A cap (by unfold maxLen; omega) _ (hr.on HQ.1))
  rw [hc] at HA
  have HG := Lib.hid (fun t w W h => good_lone p 1 t w W h)
  rw [hp] at HG
  refine (callsIn_wide (n := 8)).1 ?_
  refine callsIn_of_wp_marks Try.func15 rfl trivial ?_ rfl
  simp only [Try.ntmps15, List.size_toArray, List.length_cons, List.length_nil, Nat.reduceAdd, Nat.reduceSub, Array.replicate_succ, Array.replicate_zero, List.push_toArray, List.append_toArray, List.nil_append, List.cons_append]
  gi_wp2_with (first
    | (refine ⟨trivial, ?_⟩; gi_at_call 13; go_must (with_reducible refine (callsIn_wide.2 (HA.out)).mono ?_; rintro e w1 ⟨rfl, hB⟩; have HQ1 := HQ.on hB; obtain ⟨q0, q1, -, -⟩ := HQ1.tail.tail.top))
    | (refine ⟨trivial, ?_⟩; gi_at_call 25; go_must (with_reducible refine (callsIn_wide.2 (HG.out _ _ _ rfl)).mono ?_; rintro e w2 ⟨rfl, hB2⟩; have HQ2 := (HQ1.alloc _).on hB2))
    | (refine ⟨trivial, ?_⟩; gi_at_call 26; go_must (refine (edges_in Fence.wide _ trivial rfl _ _ _ _).mono ?_; rintro e w' ⟨rfl, rfl⟩)))
  have HI : SideBlk w A ps.length cap p w2.heap.size (passes ps p []) ((w2.alloc (Obj.cells #[.int .i64 0] 3)).alloc (Obj.cells #[.slice A ps.length cap] 23)) :=
    (HQ2.new #[.int .i64 0] 3).new' #[.slice A ps.length cap] 23 (by simp)
  have hsz : w2.heap.size + 2 ≤ ((w2.alloc (Obj.cells #[.int .i64 0] 3)).alloc (Obj.cells #[.slice A ps.length cap] 23)).heap.size := by simp
  have hsz2 := HQ2.1.size
  obtain ⟨W0, hW0⟩ : ∃ W0, ((w2.alloc (Obj.cells #[.int .i64 0] 3)).alloc (Obj.cells #[.slice A ps.length cap] 23)) = W0 := ⟨_, rfl⟩
  rw [hW0] at hsz HI ⊢
  have HON := Lib.hid (fun (x : Fin ps.length) W => On_good (nx ps x.1) (nx ps (x.1 + 1)) p (gdL_three.2 ⟨nx_gd hg (by have := x.2; omega) _, nx_gd hg (by have := x.2; omega) _, hgp⟩) W)
  have HPS := Lib.hid (fun (x : Fin ps.length) W => passes_any (nx ps x.1) (nx ps (x.1 + 1)) p (nx_gd hg (by have := x.2; omega) _) (nx_gd hg (by have := x.2; omega) _) hgp W)
  clear hW0 HQ HA HG HQ1 HQ2 q0 q1 hB hB2
  refine wpIn_rangeFunc_ownH rfl (by omega) (gf := 48) (lb := #[.pointer (some ⟨w2.heap.size + 1, 0, none⟩)]) rfl trivial (enters_of Try.func48 (by kernel_rfl) rfl)
    (edges_stops Fence.wide 7 trivial rfl (by omega) (w2.heap.size + 1) ps A cap hn w W0 hr HI.1 (by omega) (HI.h.2.1 _ (.head _)).1) Kept.trans (Kept.put (by omega)) (Below.refl _ _) (fun _ => rfl)
    (fun pre W => SideBlk w A ps.length cap p w2.heap.size (passes ps p pre) W ∧ ∀ x ∈ pre, onB (nx ps x.1) (nx ps (x.1 + 1)) p = false)
    (fun c _ W => c = .ret ∧ (∃ v, SideBlk w A ps.length cap p w2.heap.size v W) ∧ onRim ps p)
    (OwnFrom.and (hold_own (by omega) _) (ownFrom_pure _ _))
    (fun c s X Y row hs hg hr => ⟨hs.1, hs.2.1.imp (fun v h => hold_own (by omega) (fun (_ : Unit) => _) () X Y row h hg hr), hs.2.2⟩)
    ⟨HI, fun x hx => by cases hx⟩
    (fun x a' W => ∃ Bx, W.heap[Bx]? = some (Obj.cells #[.int .i64 (nx ps x.1).1, .int .i64 (nx ps x.1).2, .int .i64 (nx ps (x.1 + 1)).1, .int .i64 (nx ps (x.1 + 1)).2] 57 (0, 0)) ∧ a' = { tmps := #[.slice A ps.length cap, .agg #[.int .i64 p.1, .int .i64 p.2], undef, .pointer (some ⟨w.heap.size, 0, none⟩), .pointer (some ⟨w.heap.size + 1, 0, none⟩), .pointer (some ⟨w.heap.size + 1 + 1, 0, none⟩), .int .i64 0, .pointer (some ⟨w2.heap.size, 0, none⟩), undef, .pointer (some ⟨Bx, 0, none⟩), undef, undef, .slice A ps.length cap, .int .i64 0, .int .i64 0, .bool false, undef, .agg #[.int .i64 p.1, .int .i64 p.2], .slice (some ⟨w1.heap.size, 0, none⟩) 1 1, .bool true, .bool false, .slice A ps.length cap, .func (.func 48) #[] #[.pointer (some ⟨w2.heap.size + 1, 0, none⟩)], .int .i64 (x.1 : Int), edV (nx ps x.1) (nx ps (x.1 + 1)), undef, undef, undef, undef, undef, undef, undef, undef, undef, undef, undef, undef, undef, undef, undef, undef, undef], defers := [] })
    (fun x a' s X Y row hs hg hr => by
      obtain ⟨B1, h1, h3⟩ := hs
      exact ⟨B1, blk_own s X Y row h1 hg hr, h3⟩)
    ?assign ?body ?done ?stop
  case assign =>
    rintro l pre x W K ⟨hS, hp⟩ hK
    unfold encE edV
    have hb : Below W.heap.size W (W.alloc (Obj.cells #[.int .i64 (nx ps x.1).1, .int .i64 (nx ps x.1).2, .int .i64 (nx ps (x.1 + 1)).1, .int .i64 (nx ps (x.1 + 1)).2] 57)) := (Below.refl _ W).alloc (Nat.le_refl _) _
    gi_wp2
    exact hK _ _ (KeepsFrom.of_below hb) (Kept.of_below hb hS.1.size) ⟨hS.on hb, hp⟩ ⟨W.heap.size, heap_alloc_new _ _, rfl⟩
  case body =>
    rintro l pre x a' W - - ⟨hS, hq⟩ ⟨Bx, hX, rfl⟩ hlt
    have HC : ∀ w', Below W.heap.size W w' → (w'.cell? ⟨w2.heap.size, 0, none⟩ = some (.int .i64 (passes ps p pre)) ∧ w'.cell? ⟨Bx, 0, none⟩ = some (.int .i64 (nx ps x.1).1) ∧ w'.cell? ⟨Bx, 1, none⟩ = some (.int .i64 (nx ps x.1).2) ∧ w'.cell? ⟨Bx, 2, none⟩ = some (.int .i64 (nx ps (x.1 + 1)).1) ∧ w'.cell? ⟨Bx, 3, none⟩ = some (.int .i64 (nx ps (x.1 + 1)).2) ∧ w'.cell? ⟨w.heap.size, 0, none⟩ = some (.int .i64 p.1) ∧ w'.cell? ⟨w.heap.size, 1, none⟩ = some (.int .i64 p.2)) := fun w' hb =>
      ⟨(hS.on hb).h.tail.top1.1, blk_cell ((hb.block _ (blk_lt hX)).trans hX) 0, blk_cell ((hb.block _ (blk_lt hX)).trans hX) 1, blk_cell ((hb.block _ (blk_lt hX)).trans hX) 2, blk_cell ((hb.block _ (blk_lt hX)).trans hX) 3, (hS.on hb).h.tail.tail.tail.tail.top.1, (hS.on hb).h.tail.tail.tail.tail.top.2.1⟩
    obtain ⟨c0, c1, c2, c3, c4, c5, c6⟩ := HC W (Below.refl _ _)
    cases hon : onB (nx ps x.1) (nx ps (x.1 + 1)) p
    · have HONx := HON.out x W
      rw [hon] at HONx
      have HCR := Lib.hid HC
      clear HC
      gi_wp2_with (refine ⟨trivial, ?_⟩; gi_at_call 36; go_must (with_reducible refine (CallsIn.inRound l (callsIn_wide.2 HONx)).mono ?_; rintro e w3 ⟨rfl, hB3⟩; clear c0 c1 c2 c3 c4 c5 c6))
      have hBd := hB3.trans (⟨rfl, rfl, rfl, Nat.le_refl _, fun _ _ => rfl⟩ : Below W.heap.size w3 w3.drew)
      have hHeld : (fun w' : World => w'.cell? ⟨w2.heap.size, 0, none⟩ = some (.int .i64 (passes ps p pre)) ∧ w'.cell? ⟨Bx, 0, none⟩ = some (.int .i64 (nx ps x.1).1) ∧ w'.cell? ⟨Bx, 1, none⟩ = some (.int .i64 (nx ps x.1).2) ∧ w'.cell? ⟨Bx, 2, none⟩ = some (.int .i64 (nx ps (x.1 + 1)).1) ∧ w'.cell? ⟨Bx, 3, none⟩ = some (.int .i64 (nx ps (x.1 + 1)).2) ∧ w'.cell? ⟨w.heap.size, 0, none⟩ = some (.int .i64 p.1) ∧ w'.cell? ⟨w.heap.size, 1, none⟩ = some (.int .i64 p.2)) w3.drew := HCR.out _ hBd
      have HPx := HPS.out x
      have hpl := passes_lim ps p pre
      have hpa := passAt_lim ps p x.1
      have hwr : IntKind.i64.wrap (passes ps p pre + passAt ps p x.1) = passes ps p pre + passAt ps p x.1 := by rw [IntKind.wrap_i64]; omega
      have hpv : psv (nx ps x.1) (nx ps (x.1 + 1)) p = passAt ps p x.1 := rfl
      refine Draws.start (X := [5]) (S := fun w' => w'.cell? ⟨w2.heap.size, 0, none⟩ = some (.int .i64 (passes ps p pre)) ∧ w'.cell? ⟨Bx, 0, none⟩ = some (.int .i64 (nx ps x.1).1) ∧ w'.cell? ⟨Bx, 1, none⟩ = some (.int .i64 (nx ps x.1).2) ∧ w'.cell? ⟨Bx, 2, none⟩ = some (.int .i64 (nx ps (x.1 + 1)).1) ∧ w'.cell? ⟨Bx, 3, none⟩ = some (.int .i64 (nx ps (x.1 + 1)).2) ∧ w'.cell? ⟨w.heap.size, 0, none⟩ = some (.int .i64 p.1) ∧ w'.cell? ⟨w.heap.size, 1, none⟩ = some (.int .i64 p.2)) (by kernel_rfl) ?_
      refine Draws.take (i := 0) (v := ?_) (by decide +kernel) rfl (by rfl) (fun _ => rfl) (by decide +kernel) (by decide +kernel) (by decide +kernel) (by decide +kernel) (fun _ _ _ h => h) (by assumption) ?_ ?_
      rotate_left
      focus (intro w0 hSw; (try dsimp only at hSw); go_simp; (try (with_reducible rfl)); done)
      (try simp only [Act.put, List.getElem_toArray, List.getElem_cons_zero, List.setIfInBounds_toArray, List.set_cons_zero, List.set_cons_succ])
      refine Draws.take (i := 1) (v := ?_) (by decide +kernel) rfl (by rfl) (fun _ => rfl) (by decide +kernel) (by decide +kernel) (by decide +kernel) (by decide +kernel) (fun _ _ _ h => h) (by assumption) ?_ ?_
      rotate_left
      focus (intro w0 hSw; (try dsimp only at hSw); go_simp; (try (with_reducible rfl)); done)
      (try simp only [Act.put, List.getElem_toArray, List.getElem_cons_zero, List.getElem_cons_succ, List.setIfInBounds_toArray, List.set_cons_zero, List.set_cons_succ])
      refine Draws.take (i := 2) (v := ?_) (by decide +kernel) rfl (by rfl) (fun _ => rfl) (by decide +kernel) (by decide +kernel) (by decide +kernel) (by decide +kernel) (fun _ _ _ h => h) (by assumption) ?_ ?_
      rotate_left
      focus (intro w0 hSw; (try dsimp only at hSw); go_simp; (try (with_reducible rfl)); done)
      (try simp only [Act.put, List.getElem_toArray, List.getElem_cons_zero, List.getElem_cons_succ, List.setIfInBounds_toArray, List.set_cons_zero, List.set_cons_succ])
      refine Draws.one (i := 3) (by decide +kernel) rfl (by rfl) (fun K hKK => ?_)
      go_simp
      refine ⟨trivial, ?_⟩
      gi_at_call 37
      refine (CallsIn.inRound l (callsIn_wide.2 (HPx _))).mono ?_
      rintro e w4 ⟨rfl, hB4⟩
      have hB5 := hBd.trans (hB4.mono hBd.size)
      replace hHeld : (fun w' : World => w'.cell? ⟨w2.heap.size, 0, none⟩ = some (.int .i64 (passes ps p pre)) ∧ w'.cell? ⟨Bx, 0, none⟩ = some (.int .i64 (nx ps x.1).1) ∧ w'.cell? ⟨Bx, 1, none⟩ = some (.int .i64 (nx ps x.1).2) ∧ w'.cell? ⟨Bx, 2, none⟩ = some (.int .i64 (nx ps (x.1 + 1)).1) ∧ w'.cell? ⟨Bx, 3, none⟩ = some (.int .i64 (nx ps (x.1 + 1)).2) ∧ w'.cell? ⟨w.heap.size, 0, none⟩ = some (.int .i64 p.1) ∧ w'.cell? ⟨w.heap.size, 1, none⟩ = some (.int .i64 p.2)) w4 := HCR.out _ hB5
      refine hKK.out _ _ (fun _ => hHeld) ?_
      clear hKK K
      rw [hpv]
      (try simp only [Act.put, List.getElem_toArray, List.getElem_cons_zero, List.getElem_cons_succ, List.setIfInBounds_toArray, List.set_cons_zero, List.set_cons_succ])
      refine Draws.take (i := 4) (v := ?_) (by decide +kernel) rfl (by rfl) (fun _ => rfl) (by decide +kernel) (by decide +kernel) (by decide +kernel) (by decide +kernel) (fun _ _ _ h => h) (by assumption) ?_ ?_
      rotate_left
      focus (intro w0 hSw; (try dsimp only at hSw); go_simp; (try (with_reducible rfl)); done)
      (try simp only [Act.put, List.getElem_toArray, List.getElem_cons_zero, List.getElem_cons_succ, List.setIfInBounds_toArray, List.set_cons_zero, List.set_cons_succ])
      refine Draws.one (i := 5) (by decide +kernel) rfl (by rfl) (fun K hKK => ?_)
      have hS4 := (hS.on hB5).h
      obtain ⟨y0, z0⟩ := hS4.tail.top1
      go_simp
      refine hKK.out _ _ (fun h => absurd (by decide) h) ?_
      clear hKK K
      refine Draws.done (by decide +kernel) ?_ _
      have hg4 : w4.heap[w2.heap.size]? = some (Obj.cells #[.int .i64 (passes ps p pre)] 3 (0, 0)) := (hS4.2.1 _ (.tail _ (.head _))).1
      have hS5 : SideBlk w A ps.length cap p w2.heap.size (passes ps p (pre ++ [x])) (w4.setCell ⟨w2.heap.size, 0, none⟩ (.int .i64 (passes ps p pre + passAt ps p x.1))) := by
        rw [passes_snoc]
        exact Hold.put (L1 := [_]) hS4 0 (.int .i64 (passes ps p pre + passAt ps p x.1))
      gi_wp2
      refine ⟨(KeepsFrom.of_below hB5).trans ((KeepsOthers.setCell _ _ _).from _), (Kept.of_below hB5 hS.1.size).trans (Kept.set hg4 (by decide) (by decide) (by omega) 0 _), hS5, fun z hz => ?_⟩
      rcases List.mem_append.1 hz with hz | hz
      · exact hq z hz
      · obtain rfl := List.mem_singleton.1 hz
        exact hon
    · have HONx := HON.out x W
      rw [hon] at HONx
      gi_wp2_with (refine ⟨trivial, ?_⟩; gi_at_call 36; go_must (with_reducible refine (CallsIn.inRound l (callsIn_wide.2 HONx)).mono ?_; rintro e w3 ⟨rfl, hB3⟩; have hS3 := (hS.on hB3).h; obtain ⟨y0, z0⟩ := hS3.tail.tail.top1; obtain ⟨y1, z1⟩ := hS3.tail.tail.tail.top1))
      have hS4 : SideBlk w A ps.length cap p w2.heap.size (passes ps p pre) ((w3.setCell ⟨w.heap.size + 1, 0, none⟩ (.int .i64 0)).setCell ⟨w.heap.size + 1 + 1, 0, none⟩ (.int .i64 0)) :=
        Hold.put (L1 := [_, _]) (Hold.put (L1 := [_, _, _]) hS3 0 (.int .i64 0)) 0 (.int .i64 0)
      exact ⟨((KeepsFrom.of_below hB3).trans ((KeepsOthers.setCell _ _ _).from _)).trans ((KeepsOthers.setCell _ _ _).from _), rfl, ⟨_, hS4⟩, ⟨x.1, x.2, onB_iff.1 hon⟩⟩
  case done =>
    rintro D ys W hD rfl ⟨hS, hq⟩ hK
    rw [passes_all] at hS
    have hrim : ¬ onRim ps p := by
      rintro ⟨i, hi, ho⟩
      have := hq ⟨i, hi⟩ (List.mem_finRange _)
      rw [onB_iff.2 ho] at this
      cases this
    have y0 := hS.h.tail.top1.1
    obtain ⟨y1, z1⟩ := hS.h.tail.tail.top1
    obtain ⟨y2, z2⟩ := hS.h.tail.tail.tail.top1
    have HE := Hold.pair_set hS.h.tail.tail (.int .i64 (sideW ps p)) (.int .i64 0)
    have n1 := HE.top1.1
    have n2 := HE.tail.top1.1
    have hsv : (wind ps p = 1 ∧ sideW ps p = 1) ∨ (¬ wind ps p = 1 ∧ sideW ps p = -1) := by
      unfold sideW
      rw [if_neg hrim]
      by_cases h : wind ps p = 1
      · exact .inl ⟨h, if_pos h⟩
      · exact .inr ⟨h, if_neg h⟩
    have hK' := (KeepsOthers.setCell (W.setCell ⟨w.heap.size + 1, 0, none⟩ (.int .i64 (sideW ps p))) ⟨w.heap.size + 1 + 1, 0, none⟩ (.int .i64 0)).same D _ ((KeepsOthers.setCell W ⟨w.heap.size + 1, 0, none⟩ (.int .i64 (sideW ps p))).same D _ hK rfl) rfl
    have m1 := cell_kept n1 (grownBy_putObj' _ D (.deferred none)) (fun r e => by cases e; exact ⟨_, hK', rfl⟩)
    have m2 := cell_kept n2 (grownBy_putObj' _ D (.deferred none)) (fun r e => by cases e; exact ⟨_, hK', rfl⟩)
    have hBF := HE.1.trans (belowK_b (w := w) (Nat.le_refl _) _ D _ (.deferred none) (by omega) hK' rfl rfl)
    rcases hsv with ⟨h1, h2⟩ | ⟨h1, h2⟩
    · rw [h2] at hK' m1 m2 hBF
      gi_wp2
      refine ⟨by simp, .inl ⟨_, _, rfl, run_takeDeferred hK', ?_⟩⟩
      refine ⟨.tuple #[.int .i64 1, .int .i64 0], ?_, by rw [h2], hBF⟩
      simp [results, Try.f15, go_sem, m1, m2]
    · rw [h2] at hK' m1 m2 hBF
      gi_wp2
      refine ⟨by simp, .inl ⟨_, _, rfl, run_takeDeferred hK', ?_⟩⟩
      refine ⟨.tuple #[.int .i64 (-1), .int .i64 0], ?_, by rw [h2], hBF⟩
      simp [results, Try.f15, go_sem, m1, m2]
  case stop =>
    rintro D c pre W hD - ⟨rfl, ⟨v, hS⟩, hrim⟩ hK
    have n1 := hS.h.tail.tail.top1.1
    have n2 := hS.h.tail.tail.tail.top1.1
    have h2 : sideW ps p = 0 := by unfold sideW; rw [if_pos hrim]
    gi_wp2
    refine ⟨by simp, .inl ⟨_, _, rfl, run_takeDeferred hK, ?_⟩⟩
    have m1 := cell_kept n1 (grownBy_putObj' _ D (.deferred none)) (fun r e => by cases e; exact ⟨_, hK, rfl⟩)
    have m2 := cell_kept n2 (grownBy_putObj' _ D (.deferred none)) (fun r e => by cases e; exact ⟨_, hK, rfl⟩)
    refine ⟨.tuple #[.int .i64 0, .int .i64 0], ?_, by rw [h2], hS.1.trans (belowK_b (w := w) (Nat.le_refl _) _ D _ _ (by omega) hK rfl rfl)⟩
    simp [results, Try.f15, go_sem, m1, m2]
theorem Side_any (ps : List (Int × Int)) (A : Option Addr) (cap : Nat) (p : Int × Int) (hn : ps.length ≤ maxLen) (w : World) (hr : Pts w w.heap.size A ps) :
    Calls Try.prog 15 #[.slice A ps.length cap, .agg #[.int .i64 p.1, .int .i64 p.2]] w fun e w' => e = .returned (.tuple #[.int .i64 (sdV ps p), .int .i64 (sdE ps p)]) ∧ Below w.heap.size w w' := by
  unfold sdV sdE
  by_cases hc : chE ps = 0
  · cases hp : gd p
    · simpa [hc] using side_far ps A cap p hn hc hp w hr
    · simpa [hc] using side_good ps A cap p hc hp w hr
  · simpa [hc] using side_bad ps A cap p hn hc w hr
end Go.Proofs.Ytkkdjbmdfpmkpaa
