/- The contract of the program's call simple: each two edges have in common just what a sound ring lets them. -/
import Derived.Test.YtkkdjbmdfpmkpaaFits
namespace Go.Proofs.Ytkkdjbmdfpmkpaa
open Go.RowKit Go.Shelf

attribute [local go_sem] Oper.semAt_some

/-- Whether the edges i and j fit. -/
def fitB (ps : List (Int × Int)) (i j : Nat) : Bool := fitV (nx ps i) (nx ps (i + 1)) (nx ps j) (nx ps (j + 1)) (flw i j ps.length)
def AllFit (ps : List (Int × Int)) : Prop := ∀ i j, i < j → j < ps.length → fitB ps i j = true
theorem blk_own {β : Type} {B g : Nat} {cs : Array Value} {t : TypeId} : OwnFrom B (fun (_ : β) W => W.heap[g]? = some (Obj.cells cs t (0, 0))) := fun _ X Y row hs hg hr => (hg.block _ (blk_lt hs) (fun e => by
  obtain ⟨-, o, ho, hc⟩ := hr _ e.symm
  rw [hs] at ho; cases ho; cases hc)).trans hs
theorem kept_own {β : Type} {n₀ B : Nat} {w₀ : World} (hn : n₀ ≤ w₀.heap.size) (hB : n₀ ≤ B) : OwnFrom B (fun (_ : β) W => Kept n₀ w₀ W) := fun s X Y row hs hg hr =>
  ⟨ownFrom_below hn hB s X Y row hs.1 hg hr, fun k cs t fz hk ht => (hg.block _ (blk_lt (hs.2 k cs t fz hk ht)) (fun e => by
    obtain ⟨-, o, ho, hc⟩ := hr _ e.symm
    rw [hs.2 k cs t fz hk ht] at ho; cases ho; cases hc)).trans (hs.2 k cs t fz hk ht)⟩
/-- The blocks of the call's own that stay. -/
def Stays (w : World) (A : Option Addr) (n cap : Nat) (W : World) : Prop := Hold w [(w.heap.size + 1 + 1, #[.slice A n cap], 23), (w.heap.size + 1, #[.bool false], 4), (w.heap.size, #[.slice A n cap], 23)] W

set_option maxRecDepth 100000 in
set_option maxHeartbeats 8000000 in
theorem simple_any (ps : List (Int × Int)) (A : Option Addr) (cap : Nat) (hn : ps.length ≤ 128) (hg : gdL ps = true) (w : World) (hr : Pts w w.heap.size A ps) :
    Calls Try.prog 33 #[.slice A ps.length cap] w fun e w' => ∃ b, e = .returned (.bool b) ∧ (b = true ↔ AllFit ps) ∧ Below w.heap.size w w' := by
  have HS : Stays w A ps.length cap (((w.alloc (Obj.cells #[.slice A ps.length cap] 23)).alloc (Obj.cells #[.bool false] 4)).alloc (Obj.cells #[.slice A ps.length cap] 23)) :=
    (((Hold.refl w).new #[.slice A ps.length cap] 23).new' #[.bool false] 4 (by simp)).new' #[.slice A ps.length cap] 23 (by simp)
  refine (callsIn_wide (n := 16)).1 ?_
  refine callsIn_of_wp_marks Try.func33 rfl trivial ?_ rfl
  simp only [Try.ntmps33, List.size_toArray, List.length_cons, List.length_nil, Nat.reduceAdd, Nat.reduceSub, Array.replicate_succ, Array.replicate_zero, List.push_toArray, List.append_toArray, List.nil_append, List.cons_append]
  gi_wp2_with (refine ⟨trivial, ?_⟩; gi_at_call 26; go_must (refine (edges_in Fence.wide _ trivial rfl _ _ _ _).mono ?_; rintro e w' ⟨rfl, rfl⟩))
  have hsz : (((w.alloc (Obj.cells #[.slice A ps.length cap] 23)).alloc (Obj.cells #[.bool false] 4)).alloc (Obj.cells #[.slice A ps.length cap] 23)).heap.size = w.heap.size + 1 + 1 + 1 := by simp
  obtain ⟨W0, hW0⟩ : ∃ W0, (((w.alloc (Obj.cells #[.slice A ps.length cap] 23)).alloc (Obj.cells #[.bool false] 4)).alloc (Obj.cells #[.slice A ps.length cap] 23)) = W0 := ⟨_, rfl⟩
  rw [hW0] at hsz HS ⊢
  clear hW0
  replace hsz : w.heap.size + 3 ≤ W0.heap.size := by omega
  refine wpIn_rangeFunc_ownH rfl (by omega) (gf := 48) (lb := #[.pointer (some ⟨w.heap.size + 1 + 1, 0, none⟩)]) rfl trivial (enters_of Try.func48 (by kernel_rfl) rfl)
    (edges_stops Fence.wide 15 trivial rfl (by omega) (w.heap.size + 1 + 1) ps A cap hn w W0 hr HS.1 (by omega) (HS.2.1 _ (.head _)).1) Kept.trans (Kept.put (by omega)) (Below.refl _ _) (fun _ => rfl)
    (fun pre W => Stays w A ps.length cap W ∧ ∀ x ∈ pre, ∀ j, x.1 < j → j < ps.length → fitB ps x.1 j = true)
    (fun c _ W => c = .ret ∧ Stays w A ps.length cap W ∧ ¬ AllFit ps)
    (OwnFrom.and (hold_own (by omega) _) (ownFrom_pure _ _))
    (fun c s X Y row hs hg hr => ⟨hs.1, hold_own (by omega) (fun (_ : Unit) => _) () X Y row hs.2.1 hg hr, hs.2.2⟩)
    ⟨HS, fun x hx => by cases hx⟩
    (fun x a' W => ∃ B1 B2, W.heap[B1]? = some (Obj.cells #[.int .i64 (x.1 : Int)] 3 (0, 0)) ∧ W.heap[B2]? = some (Obj.cells #[.int .i64 (nx ps x.1).1, .int .i64 (nx ps x.1).2, .int .i64 (nx ps (x.1 + 1)).1, .int .i64 (nx ps (x.1 + 1)).2] 57 (0, 0)) ∧ a' = { tmps := #[.slice A ps.length cap, .pointer (some ⟨w.heap.size, 0, none⟩), .pointer (some ⟨w.heap.size + 1, 0, none⟩), .pointer (some ⟨B1, 0, none⟩), .pointer (some ⟨B2, 0, none⟩), undef, undef, .slice A ps.length cap, .func (.func 48) #[] #[.pointer (some ⟨w.heap.size + 1 + 1, 0, none⟩)], .int .i64 (x.1 : Int), edV (nx ps x.1) (nx ps (x.1 + 1)), undef, undef, undef, undef, undef, undef, undef, undef, undef, undef, undef, undef, undef, undef, undef, undef, undef, undef], defers := [] })
    (fun x a' s X Y row hs hg hr => by
      obtain ⟨B1, B2, h1, h2, h3⟩ := hs
      exact ⟨B1, B2, blk_own s X Y row h1 hg hr, blk_own s X Y row h2 hg hr, h3⟩)
    ?assign ?body ?done ?stop
  case assign =>
    rintro l pre x W K ⟨hS, hp⟩ hK
    unfold encE edV
    have hb : Below W.heap.size W ((W.alloc (Obj.cells #[.int .i64 (x.1 : Int)] 3)).alloc (Obj.cells #[.int .i64 (nx ps x.1).1, .int .i64 (nx ps x.1).2, .int .i64 (nx ps (x.1 + 1)).1, .int .i64 (nx ps (x.1 + 1)).2] 57)) := ((Below.refl _ W).alloc (Nat.le_refl _) _).alloc (by simp) _
    have hn1 := blk_alloc (heap_alloc_new W (Obj.cells #[.int .i64 (x.1 : Int)] 3 (0, 0))) (Obj.cells #[.int .i64 (nx ps x.1).1, .int .i64 (nx ps x.1).2, .int .i64 (nx ps (x.1 + 1)).1, .int .i64 (nx ps (x.1 + 1)).2] 57 (0, 0))
    have hn2 := heap_alloc_new (W.alloc (Obj.cells #[.int .i64 (x.1 : Int)] 3 (0, 0))) (Obj.cells #[.int .i64 (nx ps x.1).1, .int .i64 (nx ps x.1).2, .int .i64 (nx ps (x.1 + 1)).1, .int .i64 (nx ps (x.1 + 1)).2] 57 (0, 0))
    gi_wp2
    exact hK _ _ (KeepsFrom.of_below hb) (Kept.of_below hb hS.1.size) ⟨hS.on hb, hp⟩ ⟨W.heap.size, W.heap.size + 1, hn1, (by rwa [World.size_alloc] at hn2), rfl⟩
  case body =>
    rintro l pre x a' W hl ⟨r, hr'⟩ ⟨hS, hp⟩ ⟨B1, B2, hb1, hb2, rfl⟩ hlt
    have y0 := hS.cell (.tail _ (.tail _ (.head _))) 0
    simp only [List.getElem?_toArray, List.getElem?_cons_zero] at y0
    gi_wp2_with (refine ⟨trivial, ?_⟩; gi_at_call 26; go_must (refine (CallsIn.inRound l (edges_in Fence.wide _ trivial rfl _ _ _ _)).mono ?_; rintro e w' ⟨rfl, rfl⟩))
    have hS1 : Stays w A ps.length cap (W.alloc (Obj.cells #[.slice A ps.length cap] 23)) := hS.alloc _
    have hb1' := blk_alloc hb1 (Obj.cells #[.slice A ps.length cap] 23 (0, 0))
    have hb2' := blk_alloc hb2 (Obj.cells #[.slice A ps.length cap] 23 (0, 0))
    have hrl := blk_alloc hr' (Obj.cells #[.slice A ps.length cap] 23 (0, 0))
    have hbn := heap_alloc_new W (Obj.cells #[.slice A ps.length cap] 23 (0, 0))
    have hbw : Below W.heap.size W (W.alloc (Obj.cells #[.slice A ps.length cap] 23)) := (Below.refl _ W).alloc (Nat.le_refl _) _
    have hsW : (W.alloc (Obj.cells #[.slice A ps.length cap] 23)).heap.size = W.heap.size + 1 := by simp
    obtain ⟨W1, hW1⟩ : ∃ W1, (W.alloc (Obj.cells #[.slice A ps.length cap] 23)) = W1 := ⟨_, rfl⟩
    rw [hW1] at hS1 hb1' hb2' hrl hbn hbw hsW ⊢
    clear hW1 y0
    have hwW := hS.1.size
    have hlW : l < W.heap.size := blk_lt hr'
    refine wpIn_rangeFunc_ownN (l₀ := l) (r₀ := r) rfl hrl (by omega) (gf := 48) (lb := #[.pointer (some ⟨W.heap.size, 0, none⟩)]) rfl trivial (enters_of Try.func48 (by kernel_rfl) rfl)
      ((edges_stops Fence.wide 13 trivial rfl (by omega) W.heap.size ps A cap hn w W1 hr hS1.1 hwW hbn).inRound l) Kept.trans (Kept.put (by omega)) (Below.refl _ _) (fun _ => rfl)
      (fun pre' W' => ((Stays w A ps.length cap W' ∧ W'.heap[B1]? = some (Obj.cells #[.int .i64 (x.1 : Int)] 3 (0, 0)) ∧ W'.heap[B2]? = some (Obj.cells #[.int .i64 (nx ps x.1).1, .int .i64 (nx ps x.1).2, .int .i64 (nx ps (x.1 + 1)).1, .int .i64 (nx ps (x.1 + 1)).2] 57 (0, 0))) ∧ (Kept w.heap.size W W' ∧ KeepsFrom W0.heap.size W W')) ∧ ∀ y ∈ pre', x.1 < y.1 → fitB ps x.1 y.1 = true)
      (fun c _ W' => (c = .ret ∧ Stays w A ps.length cap W' ∧ ¬ AllFit ps) ∧ KeepsFrom W0.heap.size W W')
      (OwnFrom.and (OwnFrom.and (OwnFrom.and (hold_own (by omega) _) (OwnFrom.and blk_own blk_own)) (OwnFrom.and (kept_own hwW (by omega)) (ownFrom_keepsFrom (by omega)))) (ownFrom_pure _ _))
      (fun c => OwnFrom.and (fun s X Y row hs hg hr => ⟨hs.1, hold_own (by omega) (fun (_ : Unit) => _) () X Y row hs.2.1 hg hr, hs.2.2⟩) (ownFrom_keepsFrom (by omega)))
      ⟨⟨⟨hS1, hb1', hb2'⟩, Kept.of_below hbw hwW, KeepsFrom.of_below hbw⟩, fun y hy => by cases hy⟩
      (fun y a' W' => ∃ B4, W'.heap[B4]? = some (Obj.cells #[.int .i64 (nx ps y.1).1, .int .i64 (nx ps y.1).2, .int .i64 (nx ps (y.1 + 1)).1, .int .i64 (nx ps (y.1 + 1)).2] 57 (0, 0)) ∧ a' = { tmps := #[.slice A ps.length cap, .pointer (some ⟨w.heap.size, 0, none⟩), .pointer (some ⟨w.heap.size + 1, 0, none⟩), .pointer (some ⟨B1, 0, none⟩), .pointer (some ⟨B2, 0, none⟩), .int .i64 (y.1 : Int), .pointer (some ⟨B4, 0, none⟩), .slice A ps.length cap, .func (.func 48) #[] #[.pointer (some ⟨w.heap.size + 1 + 1, 0, none⟩)], .int .i64 (x.1 : Int), edV (nx ps x.1) (nx ps (x.1 + 1)), .slice A ps.length cap, .func (.func 48) #[] #[.pointer (some ⟨W.heap.size, 0, none⟩)], .int .i64 (y.1 : Int), edV (nx ps y.1) (nx ps (y.1 + 1)), undef, undef, undef, undef, undef, undef, undef, undef, undef, undef, undef, undef, undef, undef], defers := [] })
      (fun x a' s X Y row hs hg hr => by
        obtain ⟨B4, h1, h2⟩ := hs
        exact ⟨B4, blk_own s X Y row h1 hg hr, h2⟩)
      ?assign2 ?body2 ?done2 ?stop2
    case assign2 =>
      rintro l2 pre' y W' K ⟨⟨⟨hS2, hc1, hc2⟩, hk, hf⟩, hq⟩ hK
      unfold encE edV
      have hb : Below W'.heap.size W' (W'.alloc (Obj.cells #[.int .i64 (nx ps y.1).1, .int .i64 (nx ps y.1).2, .int .i64 (nx ps (y.1 + 1)).1, .int .i64 (nx ps (y.1 + 1)).2] 57)) := (Below.refl _ W').alloc (Nat.le_refl _) _
      gi_wp2
      exact hK _ _ (KeepsFrom.of_below hb) (Kept.of_below hb hS2.1.size) ⟨⟨⟨hS2.alloc _, blk_alloc hc1 _, blk_alloc hc2 _⟩, hk.trans (Kept.of_below hb hS2.1.size), hf.trans (KeepsFrom.of_below hb)⟩, hq⟩ ⟨W'.heap.size, heap_alloc_new _ _, rfl⟩
    case body2 =>
      rintro l2 pre' y a'' W' - - ⟨⟨⟨hS2, hc1, hc2⟩, hk, hf⟩, hq⟩ ⟨B4, hc4, rfl⟩ hlt2
      have HF := Lib.hid (fun W f => fit_any (nx ps x.1) (nx ps (x.1 + 1)) (nx ps y.1) (nx ps (y.1 + 1)) (nx_gd hg (by omega) _) (nx_gd hg (by omega) _) (nx_gd hg (by omega) _) (nx_gd hg (by omega) _) f W)
      have HC : ∀ w', Below W'.heap.size W' w' → (w'.cell? ⟨B1, 0, none⟩ = some (.int .i64 (x.1 : Int)) ∧ w'.cell? ⟨B2, 0, none⟩ = some (.int .i64 (nx ps x.1).1) ∧ w'.cell? ⟨B2, 1, none⟩ = some (.int .i64 (nx ps x.1).2) ∧ w'.cell? ⟨B2, 2, none⟩ = some (.int .i64 (nx ps (x.1 + 1)).1) ∧ w'.cell? ⟨B2, 3, none⟩ = some (.int .i64 (nx ps (x.1 + 1)).2) ∧ w'.cell? ⟨B4, 0, none⟩ = some (.int .i64 (nx ps y.1).1) ∧ w'.cell? ⟨B4, 1, none⟩ = some (.int .i64 (nx ps y.1).2) ∧ w'.cell? ⟨B4, 2, none⟩ = some (.int .i64 (nx ps (y.1 + 1)).1) ∧ w'.cell? ⟨B4, 3, none⟩ = some (.int .i64 (nx ps (y.1 + 1)).2) ∧ w'.cell? ⟨w.heap.size, 0, none⟩ = some (.slice A ps.length cap)) := fun w' hb =>
        ⟨blk_cell ((hb.block _ (blk_lt hc1)).trans hc1) 0, blk_cell ((hb.block _ (blk_lt hc2)).trans hc2) 0, blk_cell ((hb.block _ (blk_lt hc2)).trans hc2) 1, blk_cell ((hb.block _ (blk_lt hc2)).trans hc2) 2, blk_cell ((hb.block _ (blk_lt hc2)).trans hc2) 3, blk_cell ((hb.block _ (blk_lt hc4)).trans hc4) 0, blk_cell ((hb.block _ (blk_lt hc4)).trans hc4) 1, blk_cell ((hb.block _ (blk_lt hc4)).trans hc4) 2, blk_cell ((hb.block _ (blk_lt hc4)).trans hc4) 3, (hS2.on hb).cell (.tail _ (.tail _ (.head _))) 0⟩
      have HCR := Lib.hid HC
      have hHeld : (fun w' : World => w'.cell? ⟨B1, 0, none⟩ = some (.int .i64 (x.1 : Int)) ∧ w'.cell? ⟨B2, 0, none⟩ = some (.int .i64 (nx ps x.1).1) ∧ w'.cell? ⟨B2, 1, none⟩ = some (.int .i64 (nx ps x.1).2) ∧ w'.cell? ⟨B2, 2, none⟩ = some (.int .i64 (nx ps (x.1 + 1)).1) ∧ w'.cell? ⟨B2, 3, none⟩ = some (.int .i64 (nx ps (x.1 + 1)).2) ∧ w'.cell? ⟨B4, 0, none⟩ = some (.int .i64 (nx ps y.1).1) ∧ w'.cell? ⟨B4, 1, none⟩ = some (.int .i64 (nx ps y.1).2) ∧ w'.cell? ⟨B4, 2, none⟩ = some (.int .i64 (nx ps (y.1 + 1)).1) ∧ w'.cell? ⟨B4, 3, none⟩ = some (.int .i64 (nx ps (y.1 + 1)).2) ∧ w'.cell? ⟨w.heap.size, 0, none⟩ = some (.slice A ps.length cap)) W'.drew := HC _ ⟨rfl, rfl, rfl, Nat.le_refl _, fun _ _ => rfl⟩
      clear HC
      have hBd : Below W'.heap.size W' W'.drew := ⟨rfl, rfl, rfl, Nat.le_refl _, fun _ _ => rfl⟩
      by_cases hij : x.1 < y.1
      · have hij' : (x.1 : Int) < (y.1 : Int) := by omega
        gi_wp2_with fail
        refine Draws.start (X := []) (S := fun w' => w'.cell? ⟨B1, 0, none⟩ = some (.int .i64 (x.1 : Int)) ∧ w'.cell? ⟨B2, 0, none⟩ = some (.int .i64 (nx ps x.1).1) ∧ w'.cell? ⟨B2, 1, none⟩ = some (.int .i64 (nx ps x.1).2) ∧ w'.cell? ⟨B2, 2, none⟩ = some (.int .i64 (nx ps (x.1 + 1)).1) ∧ w'.cell? ⟨B2, 3, none⟩ = some (.int .i64 (nx ps (x.1 + 1)).2) ∧ w'.cell? ⟨B4, 0, none⟩ = some (.int .i64 (nx ps y.1).1) ∧ w'.cell? ⟨B4, 1, none⟩ = some (.int .i64 (nx ps y.1).2) ∧ w'.cell? ⟨B4, 2, none⟩ = some (.int .i64 (nx ps (y.1 + 1)).1) ∧ w'.cell? ⟨B4, 3, none⟩ = some (.int .i64 (nx ps (y.1 + 1)).2) ∧ w'.cell? ⟨w.heap.size, 0, none⟩ = some (.slice A ps.length cap)) (by kernel_rfl) ?_
        refine Draws.take (i := 0) (v := ?_) (by decide +kernel) rfl (by rfl) (fun _ => rfl) (by decide +kernel) (by decide +kernel) (by decide +kernel) (by decide +kernel) (fun _ _ _ h => h) (by assumption) ?_ ?_
        rotate_left
        focus (intro w0 hSw; (try dsimp only at hSw); go_simp; (try (with_reducible rfl)); done)
        (try simp only [Act.put, List.getElem_toArray, List.getElem_cons_zero, List.setIfInBounds_toArray, List.set_cons_zero, List.set_cons_succ])
        refine Draws.take (i := 1) (v := ?_) (by decide +kernel) rfl (by rfl) (fun _ => rfl) (by decide +kernel) (by decide +kernel) (by decide +kernel) (by decide +kernel) (fun _ _ _ h => h) (by assumption) ?_ ?_
        rotate_left
        focus (intro w0 hSw; (try dsimp only at hSw); go_simp; (try (with_reducible rfl)); done)
        (try simp only [Act.put, List.getElem_toArray, List.getElem_cons_zero, List.getElem_cons_succ, List.setIfInBounds_toArray, List.set_cons_zero, List.set_cons_succ])
        refine Draws.take (i := 2) (v := ?_) (by decide +kernel) rfl (by rfl) (fun _ => rfl) (by decide +kernel) (by decide +kernel) (by decide +kernel) (by decide +kernel) (fun _ _ _ h => h) (by assumption) ?_ ?_
        rotate_left
        focus (intro w0 hSw; (try dsimp only at hSw); go_simp; (try (with_reducible rfl)); done)
        (try simp only [Act.put, List.getElem_toArray, List.getElem_cons_zero, List.getElem_cons_succ, List.setIfInBounds_toArray, List.set_cons_zero, List.set_cons_succ])
        refine Draws.take (i := 3) (v := ?_) (by decide +kernel) rfl (by rfl) (fun _ => rfl) (by decide +kernel) (by decide +kernel) (by decide +kernel) (by decide +kernel) (fun _ _ _ h => h) (by assumption) ?_ ?_
        rotate_left
        focus (intro w0 hSw; (try dsimp only at hSw); go_simp; (try (with_reducible rfl)); done)
        (try simp only [Act.put, List.getElem_toArray, List.getElem_cons_zero, List.getElem_cons_succ, List.setIfInBounds_toArray, List.set_cons_zero, List.set_cons_succ])
        refine Draws.take (i := 4) (v := ?_) (by decide +kernel) rfl (by rfl) (fun _ => rfl) (by decide +kernel) (by decide +kernel) (by decide +kernel) (by decide +kernel) (fun _ _ _ h => h) (by assumption) ?_ ?_
        rotate_left
        focus (intro w0 hSw; (try dsimp only at hSw); go_simp; (try (with_reducible rfl)); done)
        (try simp only [Act.put, List.getElem_toArray, List.getElem_cons_zero, List.getElem_cons_succ, List.setIfInBounds_toArray, List.set_cons_zero, List.set_cons_succ])
        refine Draws.take (i := 5) (v := ?_) (by decide +kernel) rfl (by rfl) (fun _ => rfl) (by decide +kernel) (by decide +kernel) (by decide +kernel) (by decide +kernel) (fun _ _ _ h => h) (by assumption) ?_ ?_
        rotate_left
        focus (intro w0 hSw; (try dsimp only at hSw); go_simp; (try (with_reducible rfl)); done)
        (try simp only [Act.put, List.getElem_toArray, List.getElem_cons_zero, List.getElem_cons_succ, List.setIfInBounds_toArray, List.set_cons_zero, List.set_cons_succ])
        refine Draws.take (i := 6) (v := ?_) (by decide +kernel) rfl (by rfl) (fun _ => rfl) (by decide +kernel) (by decide +kernel) (by decide +kernel) (by decide +kernel) (fun _ _ _ h => h) (by assumption) ?_ ?_
        rotate_left
        focus (intro w0 hSw; (try dsimp only at hSw); go_simp; (try (with_reducible rfl)); done)
        (try simp only [Act.put, List.getElem_toArray, List.getElem_cons_zero, List.getElem_cons_succ, List.setIfInBounds_toArray, List.set_cons_zero, List.set_cons_succ])
        refine Draws.take (i := 7) (v := ?_) (by decide +kernel) rfl (by rfl) (fun _ => rfl) (by decide +kernel) (by decide +kernel) (by decide +kernel) (by decide +kernel) (fun _ _ _ h => h) (by assumption) ?_ ?_
        rotate_left
        focus (intro w0 hSw; (try dsimp only at hSw); go_simp; (try (with_reducible rfl)); done)
        (try simp only [Act.put, List.getElem_toArray, List.getElem_cons_zero, List.getElem_cons_succ, List.setIfInBounds_toArray, List.set_cons_zero, List.set_cons_succ])
        refine Draws.take (i := 8) (v := ?_) (by decide +kernel) rfl (by rfl) (fun _ => rfl) (by decide +kernel) (by decide +kernel) (by decide +kernel) (by decide +kernel) (fun _ _ _ h => h) (by assumption) ?_ ?_
        rotate_left
        focus (intro w0 hSw; (try dsimp only at hSw); go_simp; (try (with_reducible rfl)); done)
        (try simp only [Act.put, List.getElem_toArray, List.getElem_cons_zero, List.getElem_cons_succ, List.setIfInBounds_toArray, List.set_cons_zero, List.set_cons_succ])
        refine Draws.take (i := 9) (v := ?_) (by decide +kernel) rfl (by rfl) (fun _ => rfl) (by decide +kernel) (by decide +kernel) (by decide +kernel) (by decide +kernel) (fun _ _ _ h => h) (by assumption) ?_ ?_
        rotate_left
        focus (intro w0 hSw; (try dsimp only at hSw); go_simp; (try (with_reducible rfl)); done)
        (try simp only [Act.put, List.getElem_toArray, List.getElem_cons_zero, List.getElem_cons_succ, List.setIfInBounds_toArray, List.set_cons_zero, List.set_cons_succ])
        refine Draws.one (i := 10) (by decide +kernel) rfl (by rfl) (fun K hKK => ?_)
        go_simp
        refine ⟨trivial, ?_⟩
        gi_at_call 58
        refine (CallsIn.inRound l2 (callsIn_wide.2 (follow_any x.1 y.1 ps.length hij y.2 hn _))).mono ?_
        rintro e w' ⟨rfl, rfl⟩
        refine hKK.out _ _ (fun _ => hHeld) ?_
        clear hKK K
        (try simp only [Act.put, List.getElem_toArray, List.getElem_cons_zero, List.getElem_cons_succ, List.setIfInBounds_toArray, List.set_cons_zero, List.set_cons_succ])
        refine Draws.one (i := 11) (by decide +kernel) rfl (by rfl) (fun K hKK => ?_)
        go_simp
        refine ⟨trivial, ?_⟩
        gi_at_call 57
        refine (CallsIn.inRound l2 (callsIn_wide.2 (HF.out _ _))).mono ?_
        rintro e w3 ⟨rfl, hB⟩
        have hB3 := hBd.trans hB
        replace hHeld : (fun w' : World => w'.cell? ⟨B1, 0, none⟩ = some (.int .i64 (x.1 : Int)) ∧ w'.cell? ⟨B2, 0, none⟩ = some (.int .i64 (nx ps x.1).1) ∧ w'.cell? ⟨B2, 1, none⟩ = some (.int .i64 (nx ps x.1).2) ∧ w'.cell? ⟨B2, 2, none⟩ = some (.int .i64 (nx ps (x.1 + 1)).1) ∧ w'.cell? ⟨B2, 3, none⟩ = some (.int .i64 (nx ps (x.1 + 1)).2) ∧ w'.cell? ⟨B4, 0, none⟩ = some (.int .i64 (nx ps y.1).1) ∧ w'.cell? ⟨B4, 1, none⟩ = some (.int .i64 (nx ps y.1).2) ∧ w'.cell? ⟨B4, 2, none⟩ = some (.int .i64 (nx ps (y.1 + 1)).1) ∧ w'.cell? ⟨B4, 3, none⟩ = some (.int .i64 (nx ps (y.1 + 1)).2) ∧ w'.cell? ⟨w.heap.size, 0, none⟩ = some (.slice A ps.length cap)) w3 := HCR.out _ hB3
        refine hKK.out _ _ (fun _ => hHeld) ?_
        clear hKK K
        (try simp only [Act.put, List.getElem_toArray, List.getElem_cons_zero, List.getElem_cons_succ, List.setIfInBounds_toArray, List.set_cons_zero, List.set_cons_succ])
        refine Draws.take (i := 12) (v := ?_) (by decide +kernel) rfl (by rfl) (fun _ => rfl) (by decide +kernel) (by decide +kernel) (by decide +kernel) (by decide +kernel) (fun _ _ _ h => h) (by assumption) ?_ ?_
        rotate_left
        focus (intro w0 hSw; (try dsimp only at hSw); go_simp; (try (with_reducible rfl)); done)
        (try simp only [Act.put, List.getElem_toArray, List.getElem_cons_zero, List.getElem_cons_succ, List.setIfInBounds_toArray, List.set_cons_zero, List.set_cons_succ])
        refine Draws.take (i := 13) (v := ?_) (by decide +kernel) rfl (by rfl) (fun _ => rfl) (by decide +kernel) (by decide +kernel) (by decide +kernel) (by decide +kernel) (fun _ _ _ h => h) (by assumption) ?_ ?_
        rotate_left
        focus (intro w0 hSw; (try dsimp only at hSw); go_simp; (try (with_reducible rfl)); done)
        (try simp only [Act.put, List.getElem_toArray, List.getElem_cons_zero, List.getElem_cons_succ, List.setIfInBounds_toArray, List.set_cons_zero, List.set_cons_succ])
        refine Draws.done (by decide +kernel) ?_ _
        have hfb : fitV (nx ps x.1) (nx ps (x.1 + 1)) (nx ps y.1) (nx ps (y.1 + 1)) (flw x.1 y.1 ps.length) = fitB ps x.1 y.1 := rfl
        rw [hfb]
        have hS3 := hS2.on hB3
        cases hfv : fitB ps x.1 y.1
        · have y0 := hS3.cell (.tail _ (.head _)) 0
          have y1 := hS3.frozen (.tail _ (.head _)) 0
          have hg1 := (hS3.2.1 _ (.tail _ (.head _))).1
          simp only [List.getElem?_toArray, List.getElem?_cons_zero] at y0 y1
          have hS4 : Stays w A ps.length cap (w3.setCell ⟨w.heap.size + 1, 0, none⟩ (.bool false)) := Hold.put (L1 := [_]) hS3 0 (.bool false)
          gi_wp2
          exact ⟨(KeepsFrom.of_below hB3).trans ((KeepsOthers.setCell _ _ _).from _), ⟨rfl, hS4, fun h => by rw [h _ _ hij y.2] at hfv; cases hfv⟩, (hf.trans (KeepsFrom.of_below hB3)).trans ((KeepsOthers.setCell _ _ _).from _)⟩
        · gi_wp2
          refine ⟨KeepsFrom.of_below hB3, Kept.of_below hB3 hS2.1.size, ⟨⟨hS3, (hB3.block _ (blk_lt hc1)).trans hc1, (hB3.block _ (blk_lt hc2)).trans hc2⟩, hk.trans (Kept.of_below hB3 hS2.1.size), hf.trans (KeepsFrom.of_below hB3)⟩, fun z hz => ?_⟩
          rcases List.mem_append.1 hz with hz | hz
          · exact hq z hz
          · obtain rfl := List.mem_singleton.1 hz
            exact fun _ => hfv
      · have hij' : ¬ (x.1 : Int) < (y.1 : Int) := by omega
        have hd : decide ((x.1 : Int) < (y.1 : Int)) = false := decide_eq_false hij'
        gi_wp2_with fail
        refine Draws.start (X := []) (S := fun w' => w'.cell? ⟨B1, 0, none⟩ = some (.int .i64 (x.1 : Int)) ∧ w'.cell? ⟨B2, 0, none⟩ = some (.int .i64 (nx ps x.1).1) ∧ w'.cell? ⟨B2, 1, none⟩ = some (.int .i64 (nx ps x.1).2) ∧ w'.cell? ⟨B2, 2, none⟩ = some (.int .i64 (nx ps (x.1 + 1)).1) ∧ w'.cell? ⟨B2, 3, none⟩ = some (.int .i64 (nx ps (x.1 + 1)).2) ∧ w'.cell? ⟨B4, 0, none⟩ = some (.int .i64 (nx ps y.1).1) ∧ w'.cell? ⟨B4, 1, none⟩ = some (.int .i64 (nx ps y.1).2) ∧ w'.cell? ⟨B4, 2, none⟩ = some (.int .i64 (nx ps (y.1 + 1)).1) ∧ w'.cell? ⟨B4, 3, none⟩ = some (.int .i64 (nx ps (y.1 + 1)).2) ∧ w'.cell? ⟨w.heap.size, 0, none⟩ = some (.slice A ps.length cap)) (by kernel_rfl) ?_
        refine Draws.take (i := 0) (v := ?_) (by decide +kernel) rfl (by rfl) (fun _ => rfl) (by decide +kernel) (by decide +kernel) (by decide +kernel) (by decide +kernel) (fun _ _ _ h => h) (by assumption) ?_ ?_
        rotate_left
        focus (intro w0 hSw; (try dsimp only at hSw); go_simp; (try (with_reducible rfl)); done)
        (try simp only [Act.put, List.getElem_toArray, List.getElem_cons_zero, List.setIfInBounds_toArray, List.set_cons_zero, List.set_cons_succ])
        refine Draws.take (i := 1) (v := ?_) (by decide +kernel) rfl (by rfl) (fun _ => rfl) (by decide +kernel) (by decide +kernel) (by decide +kernel) (by decide +kernel) (fun _ _ _ h => h) (by assumption) ?_ ?_
        rotate_left
        focus (intro w0 hSw; (try dsimp only at hSw); go_simp; (try (with_reducible rfl)); done)
        (try simp only [Act.put, List.getElem_toArray, List.getElem_cons_zero, List.getElem_cons_succ, List.setIfInBounds_toArray, List.set_cons_zero, List.set_cons_succ])
        refine Draws.take (i := 2) (v := ?_) (by decide +kernel) rfl (by rfl) (fun _ => rfl) (by decide +kernel) (by decide +kernel) (by decide +kernel) (by decide +kernel) (fun _ _ _ h => h) (by assumption) ?_ ?_
        rotate_left
        focus (intro w0 hSw; (try dsimp only at hSw); go_simp; (try (with_reducible rfl)); done)
        (try simp only [Act.put, List.getElem_toArray, List.getElem_cons_zero, List.getElem_cons_succ, List.setIfInBounds_toArray, List.set_cons_zero, List.set_cons_succ])
        refine Draws.take (i := 3) (v := ?_) (by decide +kernel) rfl (by rfl) (fun _ => rfl) (by decide +kernel) (by decide +kernel) (by decide +kernel) (by decide +kernel) (fun _ _ _ h => h) (by assumption) ?_ ?_
        rotate_left
        focus (intro w0 hSw; (try dsimp only at hSw); go_simp; (try (with_reducible rfl)); done)
        (try simp only [Act.put, List.getElem_toArray, List.getElem_cons_zero, List.getElem_cons_succ, List.setIfInBounds_toArray, List.set_cons_zero, List.set_cons_succ])
        refine Draws.pass (i := 4) (by decide +kernel) rfl (by rfl) (fun _ => trivial) (by decide +kernel) (by decide +kernel) (by decide +kernel) (by decide +kernel) (fun _ _ _ h => h) (by assumption) ?_
        (try simp only [Act.put, List.getElem_toArray, List.getElem_cons_zero, List.getElem_cons_succ, List.setIfInBounds_toArray, List.set_cons_zero, List.set_cons_succ])
        refine Draws.pass (i := 5) (by decide +kernel) rfl (by rfl) (fun _ => trivial) (by decide +kernel) (by decide +kernel) (by decide +kernel) (by decide +kernel) (fun _ _ _ h => h) (by assumption) ?_
        (try simp only [Act.put, List.getElem_toArray, List.getElem_cons_zero, List.getElem_cons_succ, List.setIfInBounds_toArray, List.set_cons_zero, List.set_cons_succ])
        refine Draws.pass (i := 6) (by decide +kernel) rfl (by rfl) (fun _ => trivial) (by decide +kernel) (by decide +kernel) (by decide +kernel) (by decide +kernel) (fun _ _ _ h => h) (by assumption) ?_
        (try simp only [Act.put, List.getElem_toArray, List.getElem_cons_zero, List.getElem_cons_succ, List.setIfInBounds_toArray, List.set_cons_zero, List.set_cons_succ])
        refine Draws.pass (i := 7) (by decide +kernel) rfl (by rfl) (fun _ => trivial) (by decide +kernel) (by decide +kernel) (by decide +kernel) (by decide +kernel) (fun _ _ _ h => h) (by assumption) ?_
        (try simp only [Act.put, List.getElem_toArray, List.getElem_cons_zero, List.getElem_cons_succ, List.setIfInBounds_toArray, List.set_cons_zero, List.set_cons_succ])
        refine Draws.pass (i := 8) (by decide +kernel) rfl (by rfl) (fun _ => trivial) (by decide +kernel) (by decide +kernel) (by decide +kernel) (by decide +kernel) (fun _ _ _ h => h) (by assumption) ?_
        (try simp only [Act.put, List.getElem_toArray, List.getElem_cons_zero, List.getElem_cons_succ, List.setIfInBounds_toArray, List.set_cons_zero, List.set_cons_succ])
        refine Draws.pass (i := 9) (by decide +kernel) rfl (by rfl) (fun _ => trivial) (by decide +kernel) (by decide +kernel) (by decide +kernel) (by decide +kernel) (fun _ _ _ h => h) (by assumption) ?_
        (try simp only [Act.put, List.getElem_toArray, List.getElem_cons_zero, List.getElem_cons_succ, List.setIfInBounds_toArray, List.set_cons_zero, List.set_cons_succ])
        refine Draws.pass (i := 10) (by decide +kernel) rfl (by rfl) (fun _ => trivial) (by decide +kernel) (by decide +kernel) (by decide +kernel) (by decide +kernel) (fun _ _ _ h => h) (by assumption) ?_
        (try simp only [Act.put, List.getElem_toArray, List.getElem_cons_zero, List.getElem_cons_succ, List.setIfInBounds_toArray, List.set_cons_zero, List.set_cons_succ])
        refine Draws.pass (i := 11) (by decide +kernel) rfl (by rfl) (fun _ => trivial) (by decide +kernel) (by decide +kernel) (by decide +kernel) (by decide +kernel) (fun _ _ _ h => h) (by assumption) ?_
        (try simp only [Act.put, List.getElem_toArray, List.getElem_cons_zero, List.getElem_cons_succ, List.setIfInBounds_toArray, List.set_cons_zero, List.set_cons_succ])
        refine Draws.pass (i := 12) (by decide +kernel) rfl (by rfl) (fun _ => trivial) (by decide +kernel) (by decide +kernel) (by decide +kernel) (by decide +kernel) (fun _ _ _ h => h) (by assumption) ?_
        (try simp only [Act.put, List.getElem_toArray, List.getElem_cons_zero, List.getElem_cons_succ, List.setIfInBounds_toArray, List.set_cons_zero, List.set_cons_succ])
        refine Draws.take (i := 13) (v := ?_) (by decide +kernel) rfl (by rfl) (fun _ => rfl) (by decide +kernel) (by decide +kernel) (by decide +kernel) (by decide +kernel) (fun _ _ _ h => h) (by assumption) ?_ ?_
        rotate_left
        focus (intro w0 hSw; (try dsimp only at hSw); go_simp; (try (with_reducible rfl)); done)
        (try simp only [Act.put, List.getElem_toArray, List.getElem_cons_zero, List.getElem_cons_succ, List.setIfInBounds_toArray, List.set_cons_zero, List.set_cons_succ])
        refine Draws.done (by decide +kernel) ?_ _
        clear hHeld
        gi_wp2
        refine ⟨KeepsFrom.of_below hBd, Kept.of_below hBd hS2.1.size, ⟨⟨hS2.on hBd, hc1, hc2⟩, hk.trans (Kept.of_below hBd hS2.1.size), hf.trans (KeepsFrom.of_below hBd)⟩, fun z hz => ?_⟩
        rcases List.mem_append.1 hz with hz | hz
        · exact hq z hz
        · obtain rfl := List.mem_singleton.1 hz
          exact fun h => absurd h hij
    case done2 =>
      rintro ys W' rfl ⟨⟨⟨hS2, -, -⟩, hk, hf⟩, hq⟩
      gi_wp2
      refine ⟨hf, hk, hS2, fun z hz j h1 h2 => ?_⟩
      rcases List.mem_append.1 hz with hz | hz
      · exact hp z hz j h1 h2
      · obtain rfl := List.mem_singleton.1 hz
        exact hq ⟨j, h2⟩ (List.mem_finRange _) h1
    case stop2 =>
      rintro c pre' W' - ⟨⟨rfl, hS2, hnot⟩, hf⟩
      gi_wp2
      exact ⟨hf, rfl, hS2, hnot⟩
  case done =>
    rintro D ys W hD rfl ⟨hS, hall⟩ hK
    have y0 := hS.cell (.tail _ (.head _)) 0
    have y1 := hS.frozen (.tail _ (.head _)) 0
    simp only [List.getElem?_toArray, List.getElem?_cons_zero] at y0 y1
    have hS4 := Hold.put (L1 := [_]) hS 0 (.bool true)
    have n1 := hS4.cell (.tail _ (.head _)) 0
    simp only [List.setIfInBounds_toArray, List.set_cons_zero, List.getElem?_toArray, List.getElem?_cons_zero] at n1
    gi_wp2
    have hK' := (KeepsOthers.setCell W ⟨w.heap.size + 1, 0, none⟩ (.bool true)).same D _ hK rfl
    refine ⟨by simp, .inl ⟨_, _, rfl, run_takeDeferred hK', ?_⟩⟩
    have m1 := cell_kept n1 (grownBy_putObj' _ D (.deferred none)) (fun r e => by cases e; exact ⟨_, hK', rfl⟩)
    refine ⟨.bool true, ?_, true, rfl, ⟨fun _ i j h1 h2 => hall ⟨i, by omega⟩ (List.mem_finRange _) j h1 h2, fun _ => rfl⟩, hS4.1.trans (belowK_b (w := w) (Nat.le_refl _) _ D _ _ (by omega) hK' rfl rfl)⟩
    simp [results, Try.f33, go_sem, m1]
  case stop =>
    rintro D c pre W hD - ⟨rfl, hS, hnot⟩ hK
    have n1 := hS.cell (.tail _ (.head _)) 0
    simp only [List.getElem?_toArray, List.getElem?_cons_zero] at n1
    gi_wp2
    refine ⟨by simp, .inl ⟨_, _, rfl, run_takeDeferred hK, ?_⟩⟩
    have m1 := cell_kept n1 (grownBy_putObj' _ D (.deferred none)) (fun r e => by cases e; exact ⟨_, hK, rfl⟩)
    refine ⟨.bool false, ?_, false, rfl, ⟨fun h => (by cases h), fun h => absurd h hnot⟩, hS.1.trans (belowK_b (w := w) (Nat.le_refl _) _ D _ _ (by omega) hK rfl rfl)⟩
    simp [results, Try.f33, go_sem, m1]
end Go.Proofs.Ytkkdjbmdfpmkpaa
