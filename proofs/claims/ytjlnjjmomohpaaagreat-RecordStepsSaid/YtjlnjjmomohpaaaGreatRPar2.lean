/- Layer record: the territory's points, and a parcel's, as items. -/
import Derived.Test.YtjlnjjmomohpaaaGreatREdg
import Derived.Test.YtjlnjjmomohpaaaGreatSide
namespace Go.Proofs.YtjlnjjmomohpaaaGreat
open Go.RowKit Go.Shelf Go.Lib

attribute [local go_sem] Oper.semAt_some

theorem wpIn_append_it {F : Fence} {n : Nat} {w0 W : World} {v : Value} {l : List Itm} (HR : ItRow w0 v l W) (x : IV) (hx : ItAt W x) {g : Nat} {cs : Array Value} {t' : TypeId} (hg : W.heap[g]? = some (.cells cs t' (0, 0))) (hcs : cs.toList = encI x) (hn : l.length + 1 ≤ 1000000)
  {o : Oper} {a : Act} {KK : Act → World → Prop} {Q : Exit → Act → World → Prop} (s y : Operand)
  (ho : o.op = .call { callee := .builtin .append, args := #[s, y], argTypes := #[29, 29] })
  (hs : a.eval s = v) (c : Nat) (hy : a.eval y = .slice (some ⟨g, 0, none⟩) 1 c)
  (h : ∀ v' w', ItRow w0 v' (l ++ [x.it]) w' → KeepT 39 W w' → KeepsOthers W w' → KK (a.put o.dst v') w') : o.wpIn F n Tryz.prog a W KK Q := by
 obtain ⟨l', h1, h2, h3⟩ := HR
 obtain ⟨i0, z, hi, hz0, hz1, hz2, hz3⟩ := kindI.info
 have hl : l'.length = l.length := by rw [← h3, List.length_map]
 obtain ⟨v', w', hrun, hown, hgrow, -⟩ := run_append_own (P := Tryz.prog) W w0.heap.size 29 o.type 39 i0 z 2 48 Tryz.underlying29 hi hz0 hz1 hz2 hz3 (by decide) v l'.length (l'.flatMap encI) h1.2 ⟨g, 0, none⟩ 1 c (encI x) (by rw [kindI.len]) (fun j u hu => by rw [add_off, blk_cell hg, ← hu, ← hcs, Array.getElem?_toList]) (kindI.one x) (by unfold maxLen; omega) (by omega) h1.1.size
 have hk : KeepT 39 W w' := KeepT.grown h1.2 hgrow
 have hko : KeepsOthers W w' := row_keeps h1.2 hgrow
 have hrow : ItRow w0 v' (l ++ [x.it]) w' := by
  refine ⟨l' ++ [x], ⟨grownB h1.1 (Nat.le_refl _) hgrow (fun k hk => (h1.2.lt k hk).1), ?_⟩, fun y hy => ?_, by rw [List.map_append, h3]; rfl⟩
  ·rw [List.length_append, List.flatMap_append, List.flatMap_cons, List.flatMap_nil, List.append_nil]
   exact hown
  ·rcases List.mem_append.1 hy with hy | hy
   ·exact (h2 y hy).keep hk (by decide)
   ·rw [List.mem_singleton.1 hy]; exact hx.keep hk (by decide)
 unfold Oper.wpIn
 refine ⟨?_, ?_⟩
 ·simp [Oper.about, ho, resolve, Target.leads, Sem.run_pure]
 ·rw [Oper.semAt_plain F _ _ (by rw [ho]; intro c hc'; cases hc')]
  simp [execOp, ho, resolve, invoke, builtin, hs, hy, hrun, Result.andThen]
  exact h _ _ hrow hk hko
theorem Kept.of_keepT {n₀ : Nat} {W W' : World} (hb : Below n₀ W W') (hk : KeepT 39 W W') : Kept n₀ W W' := ⟨hb, fun k cs t fz h ht => hk.2 k cs t fz h (by rcases ht with rfl | rfl <;> decide)⟩
def BoxRow (w : World) (L : List (Nat × Array Value × TypeId)) (g : Nat) (l : List Itm) (W : World) : Prop := ∃ v, Hold w ((g, #[v], 29) :: L) W ∧ ItRow w v l W
theorem BoxRow.on {w W W' : World} {L : List (Nat × Array Value × TypeId)} {g : Nat} {l : List Itm} (h : BoxRow w L g l W) (hb : Below W.heap.size W W') : BoxRow w L g l W' := by
 obtain ⟨v, h1, h2⟩ := h
 exact ⟨v, h1.on hb, h2.on hb⟩
theorem ItRow.kept {w X Y : World} {v : Value} {l : List Itm} {row : Option Nat} (h : ItRow w v l X) (hg : X.grownBy Y row) (hr : ∀ r, row = some r → w.heap.size ≤ r ∧ ∃ o : Obj, X.heap[r]? = some o ∧ o.isCells = false) : ItRow w v l Y := by
 obtain ⟨l', ⟨h1, h4, h5⟩, h2, h3⟩ := h
 have hk : ∀ (k : Nat) (cs : Array Value) (t : TypeId) (fr : Nat × Nat), X.heap[k]? = some (.cells cs t fr) → Y.heap[k]? = some (.cells cs t fr) := fun k cs t fr hh => (hg.block k (blk_lt hh) (fun e => by
  obtain ⟨-, o, ho, hc⟩ := hr _ e.symm
  rw [hh] at ho; cases ho; cases hc)).trans hh
 have hkt : KeepT 39 X Y := ⟨hg.size, fun k cs t fr hh _ => hk k cs t fr hh⟩
 refine ⟨l', ⟨h1.grown hg h1.size (fun k e => (hr k e).1), h4, h5.imp id ?_⟩, fun x hx => (h2 x hx).keep hkt (by decide), h3⟩
 rintro ⟨g, cap, cur, hv, hb, hh, hrest⟩
 exact ⟨g, cap, cur, hv, hb, hk _ _ _ _ hh, hrest⟩
theorem BoxRow.own {β : Type} {w : World} {L : List (Nat × Array Value × TypeId)} {g B : Nat} (hB : w.heap.size ≤ B) (q : β → List Itm) : OwnFrom B (fun s W => BoxRow w L g (q s) W) := by
 rintro s X Y row ⟨v, h1, h2⟩ hg hr
 exact ⟨v, hold_own hB (fun (_ : Unit) => _) () X Y row h1 hg hr, h2.kept hg (fun r e => ⟨Nat.le_trans hB (hr r e).1, (hr r e).2⟩)⟩

theorem Below.between {n : Nat} {w X Y : World} (h1 : Below n w X) (h2 : Below n w Y) (hs : X.heap.size ≤ Y.heap.size) : Below n X Y :=
 ⟨h2.os.trans h1.os.symm, h2.tape.trans h1.tape.symm, h2.output.trans h1.output.symm, hs, fun k hk => (h2.block k hk).trans (h1.block k hk).symm⟩
theorem ItRow.setBox {w W : World} {v : Value} {l : List Itm} {g : Nat} {cs : Array Value} {t : TypeId} (h : ItRow w v l W) (hg : W.heap[g]? = some (.cells cs t (0, 0))) (ht : t ≠ 39) (ht2 : t ≠ 5) (hge : w.heap.size ≤ g) (u : Value) : ItRow w v l (W.setCell ⟨g, 0, none⟩ u) := by
 obtain ⟨l', ⟨h1, h4⟩, h2, h3⟩ := h
 exact ⟨l', ⟨h1.setCell (p := ⟨g, 0, none⟩) hge _, row_set h4 hg ht u⟩, fun x hx => (h2 x hx).keep (KeepT.set hg 0 u) (Ne.symm ht2), h3⟩
def outI (ps : List (Int × Int)) (k : Nat) : Itm := ([111, UInt8.ofNat k], ptsB (chk ps k))
theorem outL_fin (ps : List (Int × Int)) : outL ps = (List.finRange (nch ps.length)).map fun i => outI ps i.1 := by
 unfold outL
 apply List.ext_getElem
 ·simp
 ·intro i h1 h2; simp [outI]
set_option maxRecDepth 100000 in
set_option maxHeartbeats 8000000 in
theorem outerItems_any (ps : List (Int × Int)) (A : Option Addr) (cap : Nat) (hl : ps.length ≤ 128) (hcap : ps.length ≤ cap) (hg : ∀ p ∈ ps, Gd p) (w : World) (hr : Pts w w.heap.size A ps) :
  Calls Tryz.prog 25 #[.slice A ps.length cap] w fun e w' => ∃ v, e = .returned v ∧ ItRow w v (outL ps) w' := by
 have HR := Lib.hid (fun W (h : Below w.heap.size w W) => hr.on h)
 have HG := Lib.hid hg
 have HA : Hid (0 < ps.length → ∃ ad, A = some ad) := fun h => (hr h).imp fun ad h => h.1
 have hnc := nch_le hl
 clear hr hg
 refine (callsIn_wide (n := 8)).1 ?_
 refine callsIn_of_wp_marks Tryz.func25 rfl trivial ?_ rfl
 simp only [Tryz.ntmps25, List.size_toArray, List.length_cons, List.length_nil, Nat.reduceAdd, Nat.reduceSub, Array.replicate_succ, Array.replicate_zero, List.push_toArray, List.append_toArray, List.nil_append, List.cons_append]
 gi_wp2_with (refine ⟨trivial, ?_⟩; gi_at_call 61; refine (chunks_in Fence.wide _ trivial rfl _ _ _ _).mono ?_; rintro e w' ⟨rfl, rfl⟩)
 obtain ⟨W0, hW0⟩ : ∃ W0, (w.alloc (Obj.cells #[.slice none 0 0] 29)).alloc (Obj.cells #[.slice A ps.length cap] 23) = W0 := ⟨_, rfl⟩
 have HI : BoxRow w [] w.heap.size [] W0 := by
  rw [← hW0]
  have h1 := ((Hold.refl w).new #[.slice none 0 0] 29).alloc (Obj.cells #[.slice A ps.length cap] 23)
  exact ⟨_, h1, ItRow.nil h1.1⟩
 have hsz : W0.heap.size = w.heap.size + 1 + 1 := by rw [← hW0]; simp
 have hbx : W0.heap[w.heap.size + 1]? = some (Obj.cells #[.slice A ps.length cap] 23 (0, 0)) := by
  rw [← hW0]
  have := heap_alloc_new (w.alloc (Obj.cells #[.slice none 0 0] 29)) (Obj.cells #[.slice A ps.length cap] 23 (0, 0))
  rwa [World.size_alloc] at this
 rw [hW0]
 clear hW0
 refine wpIn_rangeFunc_ownH rfl (by omega) (gf := 100) (lb := #[.pointer (some ⟨w.heap.size + 1, 0, none⟩)]) rfl trivial (enters_of Tryz.func100 (by kernel_rfl) rfl)
  (chunks_stops Fence.wide 7 trivial rfl (by omega) (w.heap.size + 1) ps A cap (by omega) hcap w W0 HA.out hbx) Kept.trans (Kept.put (by omega)) (Below.refl _ _) (fun _ => rfl)
  (fun pre W => BoxRow w [] w.heap.size (pre.map fun i => outI ps i.1) W)
  (fun _ _ _ => False)
  (BoxRow.own (by omega) _)
  (fun _ _ _ _ _ hs _ _ => hs)
  HI
  (fun x a' _ => a' = { tmps := #[.slice A ps.length cap, undef, .slice none 0 0, .pointer (some ⟨w.heap.size, 0, none⟩), .int .i64 (x.1 : Int), chV A ps.length cap x.1, undef, .slice A ps.length cap, .func (.func 100) #[] #[.pointer (some ⟨w.heap.size + 1, 0, none⟩)], .int .i64 (x.1 : Int), chV A ps.length cap x.1, undef, undef, undef, undef, undef, undef, undef, undef, undef, undef, undef], defers := [] })
  (fun x a' _ X Y row hs hg hr => hs)
  ?assign ?body ?done ?stop
 case assign =>
  rintro l pre x W K hG hK
  unfold encC
  generalize chV A ps.length cap x.1 = cv at *
  gi_wp2
  exact hK _ _ (KeepsFrom.of_below (Below.refl _ W)) (Kept.refl _ _) hG rfl
 case body =>
  rintro l pre x a' W hl2 ⟨r, hr'⟩ ⟨v, hH, hrow⟩ rfl hlt2
  have hxk : x.1 * 16 < ps.length := by have := x.2; unfold nch at this; omega
  have hP := chk_pts (HR.out W hH.1) hxk
  have hcg : ∀ p ∈ chk ps x.1, Gd p := fun p hp => HG.out p (by
   unfold chk at hp
   exact List.mem_of_mem_drop (List.mem_of_mem_take hp))
  have hx256 : x.1 < 256 := by have := x.2; omega
  have hit : outI ps x.1 = ([111, UInt8.ofNat x.1], ptsB (chk ps x.1)) := rfl
  have hcl : (chk ps x.1).length ≤ 16 := by unfold chk; rw [List.length_take]; omega
  have hpl : (pre.map fun i => outI ps i.1).length + 1 ≤ 1000000 := by rw [List.length_map]; omega
  unfold chV
  rw [← chk_len]
  obtain ⟨Ak, hAk⟩ : ∃ Ak, (A.map fun a => a.add (x.1 * 16 * 2)) = Ak := ⟨_, rfl⟩
  obtain ⟨ck, hck⟩ : ∃ ck, cap - x.1 * 16 = ck := ⟨_, rfl⟩
  rw [hAk] at hP ⊢
  rw [hck]
  have hb4 : Below W.heap.size W (W.alloc (Obj.cells #[.int .u8 111] 5)) := (Below.refl _ W).alloc (Nat.le_refl _) _
  have hl4 := (bytes_lit (W := W) (t := 5) (s := [(111 : UInt8)]) (cs := #[.int .u8 111]) (fr := (0, 0)) rfl)
  have HP4 := Lib.hid (PutNum_one (A := some ⟨W.heap.size, 0, none⟩) (c := 1) x.1 hl4 (fun e => by cases e) (by decide) hx256)
  gi_wp2_with fail
  refine ⟨trivial, ?_⟩
  gi_at_call 62
  refine (CallsIn.inRound l (callsIn_wide.2 HP4.out)).mono ?_
  rintro e w5 ⟨v5, rfl, hR5⟩
  obtain ⟨A5, c5, rfl, hb5, hc5, hm5, hn5⟩ := hR5.byT
  have hB5 := hb4.trans (hR5.1.mono hb4.size)
  clear HP4 hl4 hb4 hR5
  gi_wp2_with fail
  have hH5 := hH.on hB5
  have hrow5 := hrow.on hB5
  have hP5 := hP.on hB5
  have y5 := hH5.cell (.head _) 0
  simp only [List.getElem?_toArray, List.getElem?_cons_zero] at y5
  have HBO := Lib.hid (bytesOf_any (chk ps x.1) Ak ck (by omega) hcg w5.drew (hP5.on ((Below.refl _ w5).drew)))
  refine Draws.start (X := [6, 7]) (S := fun w' => w'.cell? ⟨w.heap.size, 0, none⟩ = some v) (by kernel_rfl) ?_
  have hHeld : (fun w' : World => w'.cell? ⟨w.heap.size, 0, none⟩ = some v) w5.drew := y5
  refine Draws.take (i := 0) (v := ?_) (by decide +kernel) rfl (by rfl) (fun _ => rfl) (by decide +kernel) (by decide +kernel) (by decide +kernel) (by decide +kernel) (fun _ _ _ h => h) (by assumption) ?_ ?_
  rotate_left
  focus (intro w0 hSw; (try dsimp only at hSw); go_simp; (try (with_reducible rfl)); done)
  (try simp only [Act.put, jA, jB, jD, jE, jF])
  refine Draws.take (i := 1) (v := ?_) (by decide +kernel) rfl (by rfl) (fun _ => rfl) (by decide +kernel) (by decide +kernel) (by decide +kernel) (by decide +kernel) (fun _ _ _ h => h) (by assumption) ?_ ?_
  rotate_left
  focus (intro w0 hSw; (try dsimp only at hSw); go_simp; (try (with_reducible rfl)); done)
  (try simp only [Act.put, jA, jB, jC, jD, jE, jF])
  refine Draws.take (i := 2) (v := ?_) (by decide +kernel) rfl (by rfl) (fun _ => rfl) (by decide +kernel) (by decide +kernel) (by decide +kernel) (by decide +kernel) (fun _ _ _ h => h) (by assumption) ?_ ?_
  rotate_left
  focus (intro w0 hSw; (try dsimp only at hSw); go_simp; (try (with_reducible rfl)); done)
  (try simp only [Act.put, jA, jB, jC, jD, jE, jF])
  refine Draws.one (i := 3) (by decide +kernel) rfl (by rfl) (fun K hKK => ?_)
  go_simp
  refine ⟨trivial, (CallsIn.inRound l (callsIn_wide.2 HBO.out)).mono ?_⟩
  rintro e w6 ⟨v6, rfl, hR6⟩
  have hB6 : Below W.heap.size W w6 := hB5.drew.trans (hR6.1.mono hB5.size)
  obtain ⟨A6, c6, rfl, hb6, hc6, hm6, hn6⟩ := hR6.byT
  have hb56 := hb5.on ((Below.refl w5.heap.size w5).drew.trans hR6.1)
  have hH6 := hH.on hB6
  have y6 := hH6.cell (.head _) 0
  simp only [List.getElem?_toArray, List.getElem?_cons_zero] at y6
  have hHeld6 : (fun w' : World => w'.cell? ⟨w.heap.size, 0, none⟩ = some v) w6 := y6
  refine hKK.out _ _ (fun _ => hHeld6) ?_
  (try simp only [Act.put, jA, jB, jC, jD, jE, jF])
  clear hHeld hKK HBO
  refine Draws.take (i := 4) (v := ?_) (by decide +kernel) rfl (by rfl) (fun _ => rfl) (by decide +kernel) (by decide +kernel) (by decide +kernel) (by decide +kernel) (fun _ _ _ h => h) (by assumption) ?_ ?_
  rotate_left
  focus (intro w0 hSw; (try dsimp only at hSw); go_simp; (try (with_reducible rfl)); done)
  (try simp only [Act.put, jA, jB, jC, jD, jE, jF])
  refine Draws.one (i := 5) (by decide +kernel) rfl (by rfl) (fun K hKK => ?_)
  go_simp
  have hX6 := lone_it hb56 hc5 hm5 hn5 hb6 hc6 hm6 hn6
  have hb7 : Below w6.heap.size w6 (w6.alloc (Obj.cells #[.slice A5 2 c5, .slice A6 (ptsB (chk ps x.1)).length c6] 39)) := (Below.refl _ w6).alloc (Nat.le_refl _) _
  have hg7 := heap_alloc_new w6 (Obj.cells #[.slice A5 2 c5, .slice A6 (ptsB (chk ps x.1)).length c6] 39 (0, 0))
  have hB7 := hB6.trans (hb7.mono hB6.size)
  have hX7 := hX6.on hb7
  have hH7 := hH.on hB7
  have hrow7 := hrow.on hB7
  have y7 := hH7.cell (.head _) 0
  simp only [List.getElem?_toArray, List.getElem?_cons_zero] at y7
  refine hKK.out _ _ (fun _ => y7) ?_
  clear hKK hHeld6
  (try simp only [Act.put, jA, jB, jC, jD, jE, jF])
  generalize (World.alloc w6 _) = w7 at hg7 hB7 hX7 hH7 hrow7 ⊢
  refine Draws.one (i := 6) (by decide +kernel) rfl (by rfl) (fun K hKK => ?_)
  refine wpIn_append_it hrow7 _ hX7 hg7 rfl hpl _ _ rfl rfl _ rfl ?_
  intro v8 w8 hrow8 hk8 hko8
  obtain ⟨A8, c8, -, rfl, -⟩ := hrow8.items
  refine hKK.out _ _ (fun h => absurd (by decide) h) ?_
  clear hKK
  (try simp only [Act.put, jA, jB, jC, jD, jE, jF])
  have hH8 := hH7.keepT hrow8.below hk8 (by simp)
  obtain ⟨y8, z8⟩ := hH8.top1
  have hb8 := (hH8.2.1 _ (.head _)).1
  refine Draws.one (i := 7) (by decide +kernel) rfl (by rfl) (fun K hKK => ?_)
  go_simp
  refine hKK.out _ _ (fun h => absurd (by decide) h) ?_
  clear hKK
  refine Draws.done (by decide +kernel) ?_ _
  gi_wp2
  refine ⟨((KeepsFrom.of_below hB7).trans (hko8.from _)).trans ((KeepsOthers.setCell _ _ _).from _), ((Kept.of_below hB7 hH.1.size).trans (Kept.of_keepT (Below.between hrow7.below hrow8.below hk8.1) hk8)).trans (Kept.set hb8 (by decide) (by decide) (Nat.le_refl _) 0 _), _, hH8.set 0 _, ?_⟩
  have h9 := hrow8.setBox hb8 (by decide) (by decide) (Nat.le_refl _) (.slice A8 (pre.length + 1) c8)
  rw [List.map_append]
  simpa [IV.it, outI] using h9
 case done =>
  rintro D ys W hD rfl ⟨v, hH, hrow⟩ hK
  rw [← outL_fin] at hrow
  have y0 := hH.cell (.head _) 0
  simp only [List.getElem?_toArray, List.getElem?_cons_zero] at y0
  gi_wp2
  refine ⟨by simp, .inl ⟨_, _, rfl, run_takeDeferred hK, ?_⟩⟩
  refine ⟨v, ?_, ⟨v, rfl, hrow.kept (grownBy_putObj' W D (.deferred none)) (fun r e => by cases e; exact ⟨by omega, _, hK, rfl⟩)⟩⟩
  simp [results, Tryz.f25, go_sem]
 case stop =>
  rintro D c pre W _ _ h _
  exact h.elim
end Go.Proofs.YtjlnjjmomohpaaaGreat

namespace Go.Proofs.YtjlnjjmomohpaaaGreat
open Go.RowKit Go.Shelf Go.Lib
attribute [local go_sem] Oper.semAt_some

section
variable {F : Fence} {n : Nat} {P : Program} {ops : Array Oper} {Q : Exit → Act → World → Prop} {S : World → Prop} {X : List Nat}
def Alts (F : Fence) (n : Nat) (P : Program) (ops : Array Oper) (Q : Exit → Act → World → Prop) (S : World → Prop) (X : List Nat) (k : Nat) (done : Array Bool) (a : Act) (w : World) (rs : List Nat) : Prop :=
 ∀ i ∈ rs, ∃ o, ops[i]? = some o ∧ Region.wanted o (yielded ops a.tmps) = true ∧ ∀ K : Act → World → Prop, Hid (∀ a' w', (i ∉ X → S w') → Draws F n P ops Q S X k (done.setIfInBounds i true) a' w' → K a' w') → o.wpIn F n P a w K Q
theorem Alts.nil {k : Nat} {done : Array Bool} {a : Act} {w : World} : Alts F n P ops Q S X k done a w [] := fun _ h => by cases h
theorem Alts.cons {k i : Nat} {o : Oper} {rs : List Nat} {done : Array Bool} {a : Act} {w : World} (hi : ops[i]? = some o) (hw : Region.wanted o (yielded ops a.tmps) = true)
  (h : ∀ K : Act → World → Prop, Hid (∀ a' w', (i ∉ X → S w') → Draws F n P ops Q S X k (done.setIfInBounds i true) a' w' → K a' w') → o.wpIn F n P a w K Q) (hr : Alts F n P ops Q S X k done a w rs) : Alts F n P ops Q S X k done a w (i :: rs) := fun j hj => by
 rcases List.mem_cons.1 hj with rfl | hj
 ·exact ⟨o, hi, hw, h⟩
 ·exact hr j hj
theorem Draws.alts {k : Nat} {rs : List Nat} {done : Array Bool} {a : Act} {w : World} (hr : Region.ready .any ops done = rs) (hne : rs ≠ []) (h : Alts F n P ops Q S X k done a w rs) : Draws F n P ops Q S X (k + 1) done a w := by
 subst hr
 refine ⟨fun hc => ⟨fun h0 => ?_, fun j hj => ?_⟩⟩
 ·exact absurd h0 hne
 ·have hc' := hc.set hj
  obtain ⟨o, hi, hw, h2⟩ := h j hj
  unfold wpOpIn
  simp only [hi]
  rw [if_pos hw]
  exact h2 _ (Lib.hid fun a' w' h1 h2 => ⟨h1, h2.goes hc'⟩)
end
def Leaves (R : Act → World → Prop) : Exit → Act → World → Prop
  | .normal, a, w => R a w
  | _, _, _ => False
theorem conv_own (W : World) (s : ByteArray) (hs : s.size ≤ 2097152) : ∃ W1 cap, (convert 9 37 (.string s)).run Tryz.prog W = .ok (.slice (some ⟨W.heap.size, 0, none⟩) s.data.toList.length cap) W1 ∧ Below W.heap.size W W1 ∧
  ByT W1 (some ⟨W.heap.size, 0, none⟩) s.data.toList ∧ s.data.toList.length ≤ cap ∧ cap ≤ maxLen := by
 have e : s.data.toList.length = s.size := Array.length_toList
 have hge : s.size ≤ grownCap W s.size 0 5 := Go.grownCap_ge _ _ _ _
 refine ⟨_, _, by rw [e]; exact Go.run_bytes_of_string (P := Tryz.prog) W 9 37 5 s Tryz.underlying9 Tryz.underlying37 Tryz.underlying5, ((Below.refl _ W).drew).alloc (Nat.le_refl _) _, fun h0 => ⟨W.heap.size, 0, _, _, rfl, heap_alloc_new W.drew _, fun i hi => ?_⟩, by rw [e]; exact hge, Go.grownCap_le_maxLen W s.size 0 5 (by unfold maxLen; omega)⟩
 have hi2 : i < s.data.size := by simpa using hi
 rw [Nat.zero_add, Go.bytesRow_at s _ i hi2]
 simp [List.getD_eq_getElem?_getD, List.getElem?_eq_getElem hi2]
theorem byT_own {β : Type} {B : Nat} {A : Option Addr} {s : List UInt8} : OwnFrom B (fun (_ : β) W => ByT W A s) := fun _ X Y row hs hg hr h0 => by
 obtain ⟨g, o, cs, fr, e, hh, hc⟩ := hs h0
 exact ⟨g, o, cs, fr, e, (hg.block _ (blk_lt hh) (fun e => by
  obtain ⟨-, o, ho, hc⟩ := hr _ e.symm
  rw [hh] at ho; cases ho; cases hc)).trans hh, hc⟩
theorem ItRow.lone {w W : World} {g : Nat} {cs : Array Value} {x : IV} (hb : Below w.heap.size w W) (hg : W.heap[g]? = some (.cells cs 39 (0, 0))) (hge : w.heap.size ≤ g) (hcs : cs.toList = encI x) (hx : ItAt W x) : ItRow w (.slice (some ⟨g, 0, none⟩) 1 1) [x.it] W := by
 have hs : cs.size = 2 := by rw [← Array.length_toList, hcs]; rfl
 refine ⟨[x], ⟨hb, ?_, .inr ⟨g, 1, cs, rfl, hge, hg, Nat.le_refl _, by unfold maxLen; omega, by omega, ?_⟩⟩, fun y hy => by rw [List.mem_singleton.1 hy]; exact hx, rfl⟩
 ·rfl
 ·rw [List.take_of_length_le (by rw [Array.length_toList, hs]; exact Nat.le_refl _), hcs]
  simp
def parI (hd : List UInt8) (ps : List (Int × Int)) (k : Nat) : Itm := (hd ++ [UInt8.ofNat (k + 1)], ptsB (chk ps k))
theorem parL_fin (p : Par) {hd : List UInt8} (h : [112] ++ idK p.id = hd) : parL p = (hd ++ [0], p.own.data.toList) :: (List.finRange (nch p.ring.length)).map fun i => parI hd p.ring i.1 := by
 subst h
 unfold parL parI
 congr 1
 apply List.ext_getElem
 ·simp
 ·intro i h1 h2; simp
set_option maxRecDepth 100000 in
set_option maxHeartbeats 16000000 in
theorem parcelItems_any (x : PV) (hid : idB x.par.id = true) (hl : x.par.ring.length ≤ 128) (hcap : x.par.ring.length ≤ x.cap) (hg : ∀ p ∈ x.par.ring, Gd p) (ho : x.par.own.size ≤ 1000) (w : World) (hr : Pts w w.heap.size x.A x.par.ring) :
  Calls Tryz.prog 26 #[.agg #[.int .i64 x.par.id, .slice x.A x.par.ring.length x.cap, .string x.par.own]] w fun e w' => ∃ v, e = .returned v ∧ ItRow w v (parL x.par) w' := by
 have HR := Lib.hid (fun W (h : Below w.heap.size w W) => hr.on h)
 have HG := Lib.hid hg
 have HA : Hid (0 < x.par.ring.length → ∃ ad, x.A = some ad) := fun h => (hr h).imp fun ad h => h.1
 have hnc := nch_le hl
 have HID := Lib.hid (id_lim hid)
 have HQ := (Hold.refl w).new #[.int .i64 x.par.id, .slice x.A x.par.ring.length x.cap, .string x.par.own] 58
 obtain ⟨hd, hhd⟩ : ∃ hd, [112] ++ idK x.par.id = hd := ⟨_, rfl⟩
 have HDL : Hid (hd.length = 5) := by unfold Hid; rw [← hhd, List.length_append, idK_len]; rfl
 have HPL := Lib.hid (parL_fin x.par hhd)
 obtain ⟨ol, hol⟩ : ∃ l, x.par.own.data.toList = l := ⟨_, rfl⟩
 rw [hol] at HPL
 clear hr hg hid
 generalize parL x.par = pl at *
 generalize x.par.id = id at *
 generalize x.par.own = own at *
 generalize x.par.ring = ps at *
 generalize x.A = A at *
 generalize x.cap = cap at *
 refine (callsIn_wide (n := 8)).1 ?_
 refine callsIn_of_wp_marks Tryz.func26 rfl trivial ?_ rfl
 simp only [Tryz.ntmps26, List.size_toArray, List.length_cons, List.length_nil, Nat.reduceAdd, Nat.reduceSub, Array.replicate_succ, Array.replicate_zero, List.push_toArray, List.append_toArray, List.nil_append, List.cons_append]
 have hb1 : Below w.heap.size w (w.alloc (Obj.cells #[.int .i64 id, .slice A ps.length cap, .string own] 58)) := (Below.refl _ w).alloc (Nat.le_refl _) _
 have hl4 := (bytes_lit (W := w.alloc (Obj.cells #[.int .i64 id, .slice A ps.length cap, .string own] 58)) (t := 5) (s := [(112 : UInt8)]) (cs := #[.int .u8 112]) (fr := (0, 0)) rfl)
 rw [World.size_alloc] at hl4
 have HP4 := putID_any (A := some ⟨w.heap.size + 1, 0, none⟩) (c := 1) id HID.out hl4 (fun e => by cases e) (by decide)
 rw [hhd] at HP4
 replace HP4 := Lib.hid HP4
 have hq1 := HQ.alloc (Obj.cells #[.int .u8 112] 5)
 have x0 := hq1.cell (.head _) 0
 simp only [List.getElem?_toArray, List.getElem?_cons_zero] at x0
 gi_wp2_with fail
 refine ⟨trivial, ?_⟩
 gi_at_call 64
 refine (callsIn_wide.2 HP4.out).mono ?_
 rintro e w2 ⟨v2, rfl, hR2⟩
 have hq2 := hq1.on hR2.1
 obtain ⟨A2, c2, rfl, hB2, hc2, hm2, hn2⟩ := hR2.byT
 have hH3 := hq2.new #[.slice A2 hd.length c2] 37
 have hB3 := hB2.on ((Below.refl _ w2).alloc (Nat.le_refl _) (Obj.cells #[.slice A2 hd.length c2] 37))
 clear HP4 hl4 hb1 x0 hq1 hq2 hR2 hB2 HQ
 gi_wp2_with fail
 generalize (World.alloc w2 _) = w30 at hH3 hB3 ⊢
 generalize w2.heap.size = gh at hH3 ⊢
 generalize w.heap.size + 1 = gq at *
 obtain ⟨w3, hw3⟩ : ∃ w3, w30.drew = w3 := ⟨_, rfl⟩
 have hH4 : Hold w [(gh, #[.slice A2 hd.length c2], 37), (w.heap.size, #[.int .i64 id, .slice A ps.length cap, .string own], 58)] w3 := by rw [← hw3]; exact hH3.drew
 have hB4 : ByT w3 A2 hd := by rw [← hw3]; exact hB3.on ((Below.refl _ w30).drew)
 clear hH3 hB3
 obtain ⟨key, hkey⟩ : ∃ key, hd ++ [(0 : UInt8)] = key := ⟨_, rfl⟩
 have HPN : Hid (∀ W, Below w3.heap.size w3 W → Calls Tryz.prog 62 #[.slice A2 hd.length c2, .int .i64 0, .int .i64 1] W fun e w' => ∃ v, e = .returned v ∧ BRow W v key w') := fun W h => by
  have := PutNum_one (A := A2) (c := c2) 0 (hB4.on h).bytes hn2 (by have := HDL.out; omega) (by decide)
  rw [← hkey]
  exact this
 have HS : Hid (∀ W, Below w3.heap.size w3 W → W.cell? ⟨gh, 0, none⟩ = some (.slice A2 hd.length c2) ∧ W.cell? ⟨w.heap.size, 2, none⟩ = some (.string own)) := fun W h => by
  have h1 := (hH4.on h).cell (.head _) 0
  have h2 := (hH4.on h).cell (.tail _ (.head _)) 2
  simp only [List.getElem?_toArray, List.getElem?_cons_zero, List.getElem?_cons_succ] at h1 h2
  exact ⟨h1, h2⟩
 have HH : Hid (∀ W, Below w3.heap.size w3 W → ∀ g4, w3.heap.size ≤ g4 → ∀ cs, W.heap[g4]? = some (.cells cs 29 (0, 0)) → Hold w [(g4, cs, 29), (gh, #[.slice A2 hd.length c2], 37), (w.heap.size, #[.int .i64 id, .slice A ps.length cap, .string own], 58)] W) := fun W h g4 hl4 cs hg4 => by
  obtain ⟨h1, h2, h3⟩ := hH4.on h
  refine ⟨h1, fun e he => ?_, List.Pairwise.cons (fun e he => ?_) h3⟩
  ·rcases List.mem_cons.1 he with rfl | he
   ·exact ⟨hg4, Nat.le_trans hH4.1.size hl4⟩
   ·exact h2 e he
  ·exact Nat.lt_of_lt_of_le (hH4.lt he) hl4
 obtain ⟨E, hE⟩ : ∃ E : Nat → Nat → Option Addr → Nat → Option Addr → Nat → Act, E = fun g4 gs A12 c12 A15 c15 => { tmps := #[.agg #[.int .i64 id, .slice A ps.length cap, .string own], .pointer (some ⟨w.heap.size, 0, none⟩), .slice none 0 0, .pointer (some ⟨gh, 0, none⟩), .pointer (some ⟨g4, 0, none⟩), undef, undef, .slice (some ⟨gq, 0, none⟩) 1 1, .pointer (some ⟨w.heap.size, 0, none⟩), .int .i64 id, .slice A2 hd.length c2, .slice A2 hd.length c2, .slice A12 key.length c12, .pointer (some ⟨w.heap.size, 2, none⟩), .string own, .slice A15 ol.length c15, .agg #[.slice A12 key.length c12, .slice A15 ol.length c15], .slice (some ⟨gs, 0, none⟩) 1 1, undef, undef, undef, undef, undef, undef, undef, undef, undef, undef, undef, undef, undef, undef, undef, undef], defers := [] } := ⟨_, rfl⟩
 refine wpIn_mono (Q := Leaves fun a' w' => ∃ g4 gs A12 c12 A15 c15, a' = E g4 gs A12 c12 A15 c15 ∧ Hold w [(g4, #[.slice (some ⟨gs, 0, none⟩) 1 1], 29), (gh, #[.slice A2 hd.length c2], 37), (w.heap.size, #[.int .i64 id, .slice A ps.length cap, .string own], 58)] w' ∧ ItRow w (.slice (some ⟨gs, 0, none⟩) 1 1) [(key, ol)] w' ∧ ByT w' A2 hd) ?main ?rest
 case main =>
  have HEND : Hid (∀ (W : World) (g4 gs : Nat) (A12 : Option Addr) (c12 : Nat) (A15 : Option Addr) (c15 : Nat) (a : Act), a = E g4 gs A12 c12 A15 c15 → Below w3.heap.size w3 W → Hold w [(g4, #[.slice none 0 0], 29), (gh, #[.slice A2 hd.length c2], 37), (w.heap.size, #[.int .i64 id, .slice A ps.length cap, .string own], 58)] W → W.heap[g4]? = some (.cells #[.slice none 0 0] 29 (0, 0)) → w3.heap.size ≤ g4 →
    W.heap[gs]? = some (.cells #[.slice A12 key.length c12, .slice A15 ol.length c15] 39 (0, 0)) → w3.heap.size ≤ gs → ItAt W ⟨key, A12, c12, ol, A15, c15⟩ →
    ∃ g4' gs' A12' c12' A15' c15', a = E g4' gs' A12' c12' A15' c15' ∧ Hold w [(g4', #[.slice (some ⟨gs', 0, none⟩) 1 1], 29), (gh, #[.slice A2 hd.length c2], 37), (w.heap.size, #[.int .i64 id, .slice A ps.length cap, .string own], 58)] (W.setCell ⟨g4, 0, none⟩ (.slice (some ⟨gs, 0, none⟩) 1 1)) ∧ ItRow w (.slice (some ⟨gs', 0, none⟩) 1 1) [(key, ol)] (W.setCell ⟨g4, 0, none⟩ (.slice (some ⟨gs, 0, none⟩) 1 1)) ∧ ByT (W.setCell ⟨g4, 0, none⟩ (.slice (some ⟨gs, 0, none⟩) 1 1)) A2 hd)   := fun W g4 gs A12 c12 A15 c15 a ha hb hH hg4 hl4 hgs hls hX => by
   refine ⟨g4, gs, A12, c12, A15, c15, ha, hH.set 0 _, ?_⟩
   have h1 := hH4.1.size
   have := (ItRow.lone (w := w) hH.1 hgs (by omega) rfl hX).setBox hg4 (by decide) (by decide) (by omega) (.slice (some ⟨gs, 0, none⟩) 1 1)
   exact ⟨this, (hB4.on hb).keep (KeepT.set hg4 0 _) (by decide)⟩
  have Hw3 : Hid (Below w3.heap.size w3 w3) := Below.refl _ _
  refine Draws.start (X := [8]) (S := fun W => W.cell? ⟨gh, 0, none⟩ = some (.slice A2 hd.length c2) ∧ W.cell? ⟨w.heap.size, 2, none⟩ = some (.string own)) (by kernel_rfl) ?_
  rw [hw3]
  have hS3 := HS.out w3 Hw3.out
  have HE := Lib.hid hE
  clear hE hkey HPL hhd
  refine Draws.take (i := 0) (v := ?_) (by decide +kernel) rfl (by rfl) (fun _ => rfl) (by decide +kernel) (by decide +kernel) (by decide +kernel) (by decide +kernel) (fun _ _ _ h => h) (by assumption) ?_ ?_
  rotate_left
  focus (intro w0 hSw; (try dsimp only at hSw); go_simp; (try (with_reducible rfl)); done)
  (try simp only [Act.put, jA, jB, jD, jE, jF])
  refine Draws.take (i := 2) (v := ?_) (by decide +kernel) rfl (by rfl) (fun _ => rfl) (by decide +kernel) (by decide +kernel) (by decide +kernel) (by decide +kernel) (fun _ _ _ h => h) (by assumption) ?_ ?_
  rotate_left
  focus (intro w0 hSw; (try dsimp only at hSw); go_simp; (try (with_reducible rfl)); done)
  (try simp only [Act.put, jA, jB, jC, jD, jE, jF])
  refine Draws.take (i := 3) (v := ?_) (by decide +kernel) rfl (by rfl) (fun _ => rfl) (by decide +kernel) (by decide +kernel) (by decide +kernel) (by decide +kernel) (fun _ _ _ h => h) (by assumption) ?_ ?_
  rotate_left
  focus (intro w0 hSw; (try dsimp only at hSw); go_simp; (try (with_reducible rfl)); done)
  (try simp only [Act.put, jA, jB, jC, jD, jE, jF])
  refine Draws.alts (rs := [1, 4, 7]) (by decide +kernel) (by simp) ?_
  refine Alts.cons rfl (by rfl) (fun K hKK => ?_) ?_
  ·skip
   go_simp
   refine ⟨trivial, (callsIn_wide.2 (HPN.out _ Hw3.out)).mono ?_⟩
   rintro e u1 ⟨v12, rfl, hR12⟩
   obtain ⟨A12, c12, rfl, hb12, hc12, hm12, hn12⟩ := hR12.byT
   have hw3u1 := hR12.1
   have Hu1 := Lib.hid (Hw3.out.trans (hw3u1.mono Hw3.out.size))
   refine hKK.out _ _ (fun _ => HS.out _ Hu1.out) ?_
   clear hKK hw3u1 hR12
   (try simp only [Act.put, jA, jB, jC, jD, jE, jF])
   have hSu1 := HS.out _ Hu1.out
   refine Draws.alts (rs := [4, 7]) (by decide +kernel) (by simp) ?_
   refine Alts.cons rfl (by rfl) (fun K hKK => ?_) ?_
   ·skip
    obtain ⟨u2, c15, hrun, hu1u2, hb15, hc15, hm15⟩ := conv_own u1 own (by omega)
    obtain ⟨q15, eq15⟩ : ∃ q, u1.heap.size = q := ⟨_, rfl⟩
    rw [eq15, hol] at hrun hb15; rw [hol] at hc15
    go_simp
    clear hrun eq15
    have Hu2 := Lib.hid (Hu1.out.trans (hu1u2.mono Hu1.out.size))
    replace hb12 := hb12.on hu1u2
    refine hKK.out _ _ (fun _ => HS.out _ Hu2.out) ?_
    clear hKK hu1u2
    (try simp only [Act.put, jA, jB, jC, jD, jE, jF])
    have hSu2 := HS.out _ Hu2.out
    refine Draws.take (i := 5) (v := ?_) (by decide +kernel) rfl (by rfl) (fun _ => rfl) (by decide +kernel) (by decide +kernel) (by decide +kernel) (by decide +kernel) (fun _ _ _ h => h) (by assumption) ?_ ?_
    rotate_left
    focus (intro w0 hSw; (try dsimp only at hSw); go_simp; (try (with_reducible rfl)); done)
    (try simp only [Act.put, jA, jB, jC, jD, jE, jF])
    refine Draws.alts (rs := [6, 7]) (by decide +kernel) (by simp) ?_
    refine Alts.cons rfl (by rfl) (fun K hKK => ?_) ?_
    ·skip
     go_simp
     obtain ⟨u3, eu3⟩ : ∃ V, u2.alloc (Obj.cells #[.slice A12 key.length c12, .slice (some ⟨q15, 0, none⟩) ol.length c15] 39) = V := ⟨_, rfl⟩
     have hu2u3 : Below u2.heap.size u2 u3 := by rw [← eu3]; exact (Below.refl _ u2).alloc (Nat.le_refl _) _
     have hgs : u3.heap[u2.heap.size]? = some (Obj.cells #[.slice A12 key.length c12, .slice (some ⟨q15, 0, none⟩) ol.length c15] 39 (0, 0)) := by rw [← eu3]; exact heap_alloc_new _ _
     obtain ⟨gs, egs⟩ : ∃ g, u2.heap.size = g := ⟨_, rfl⟩
     have hls : w3.heap.size ≤ gs := by rw [← egs]; exact Hu2.out.size
     rw [egs] at hgs ⊢
     rw [eu3]
     clear eu3 egs
     have Hu3 := Lib.hid (Hu2.out.trans (hu2u3.mono Hu2.out.size))
     replace hb12 := hb12.on hu2u3
     replace hb15 := hb15.on hu2u3
     refine hKK.out _ _ (fun _ => HS.out _ Hu3.out) ?_
     clear hKK hu2u3
     (try simp only [Act.put, jA, jB, jC, jD, jE, jF])
     have hSu3 := HS.out _ Hu3.out
     refine Draws.one (i := 7) (by decide +kernel) rfl (by rfl) (fun K hKK => ?_)
     go_simp
     obtain ⟨u4, eu4⟩ : ∃ V, u3.alloc (Obj.cells #[.slice none 0 0] 29) = V := ⟨_, rfl⟩
     have hu3u4 : Below u3.heap.size u3 u4 := by rw [← eu4]; exact (Below.refl _ u3).alloc (Nat.le_refl _) _
     have hg4 : u4.heap[u3.heap.size]? = some (Obj.cells #[.slice none 0 0] 29 (0, 0)) := by rw [← eu4]; exact heap_alloc_new _ _
     obtain ⟨g4, eg4⟩ : ∃ g, u3.heap.size = g := ⟨_, rfl⟩
     have hl4 : w3.heap.size ≤ g4 := by rw [← eg4]; exact Hu3.out.size
     rw [eg4] at hg4 ⊢
     rw [eu4]
     clear eu4 eg4
     have Hu4 := Lib.hid (Hu3.out.trans (hu3u4.mono Hu3.out.size))
     replace hb12 := hb12.on hu3u4
     replace hb15 := hb15.on hu3u4
     replace hgs := (hu3u4.block _ (blk_lt hgs)).trans hgs
     refine hKK.out _ _ (fun _ => HS.out _ Hu4.out) ?_
     clear hKK hu3u4
     (try simp only [Act.put, jA, jB, jC, jD, jE, jF])
     have hSu4 := HS.out _ Hu4.out
     refine Draws.one (i := 8) (by decide +kernel) rfl (by rfl) (fun K hKK => ?_)
     have hH8 := HH.out _ Hu4.out g4 hl4 _ hg4
     obtain ⟨y8, z8⟩ := hH8.top1
     have hX8 := lone_it hb12 hc12 hm12 hn12 hb15 hc15 hm15 (fun e => by cases e)
     go_simp
     refine hKK.out _ _ (fun h => absurd (by decide) h) ?_
     clear hKK
     (try simp only [Act.put, jA, jB, jC, jD, jE, jF])
     refine Draws.done (by decide +kernel) ?_ _
     exact HEND.out _ g4 gs A12 c12 (some ⟨q15, 0, none⟩) c15 _ (by rw [HE.out]) Hu4.out hH8 hg4 hl4 hgs hls hX8
    refine Alts.cons rfl (by rfl) (fun K hKK => ?_) ?_
    ·skip
     go_simp
     obtain ⟨u3, eu3⟩ : ∃ V, u2.alloc (Obj.cells #[.slice none 0 0] 29) = V := ⟨_, rfl⟩
     have hu2u3 : Below u2.heap.size u2 u3 := by rw [← eu3]; exact (Below.refl _ u2).alloc (Nat.le_refl _) _
     have hg4 : u3.heap[u2.heap.size]? = some (Obj.cells #[.slice none 0 0] 29 (0, 0)) := by rw [← eu3]; exact heap_alloc_new _ _
     obtain ⟨g4, eg4⟩ : ∃ g, u2.heap.size = g := ⟨_, rfl⟩
     have hl4 : w3.heap.size ≤ g4 := by rw [← eg4]; exact Hu2.out.size
     rw [eg4] at hg4 ⊢
     rw [eu3]
     clear eu3 eg4
     have Hu3 := Lib.hid (Hu2.out.trans (hu2u3.mono Hu2.out.size))
     replace hb12 := hb12.on hu2u3
     replace hb15 := hb15.on hu2u3
     refine hKK.out _ _ (fun _ => HS.out _ Hu3.out) ?_
     clear hKK hu2u3
     (try simp only [Act.put, jA, jB, jC, jD, jE, jF])
     have hSu3 := HS.out _ Hu3.out
     refine Draws.one (i := 6) (by decide +kernel) rfl (by rfl) (fun K hKK => ?_)
     go_simp
     obtain ⟨u4, eu4⟩ : ∃ V, u3.alloc (Obj.cells #[.slice A12 key.length c12, .slice (some ⟨q15, 0, none⟩) ol.length c15] 39) = V := ⟨_, rfl⟩
     have hu3u4 : Below u3.heap.size u3 u4 := by rw [← eu4]; exact (Below.refl _ u3).alloc (Nat.le_refl _) _
     have hgs : u4.heap[u3.heap.size]? = some (Obj.cells #[.slice A12 key.length c12, .slice (some ⟨q15, 0, none⟩) ol.length c15] 39 (0, 0)) := by rw [← eu4]; exact heap_alloc_new _ _
     obtain ⟨gs, egs⟩ : ∃ g, u3.heap.size = g := ⟨_, rfl⟩
     have hls : w3.heap.size ≤ gs := by rw [← egs]; exact Hu3.out.size
     rw [egs] at hgs ⊢
     rw [eu4]
     clear eu4 egs
     have Hu4 := Lib.hid (Hu3.out.trans (hu3u4.mono Hu3.out.size))
     replace hb12 := hb12.on hu3u4
     replace hb15 := hb15.on hu3u4
     replace hg4 := (hu3u4.block _ (blk_lt hg4)).trans hg4
     refine hKK.out _ _ (fun _ => HS.out _ Hu4.out) ?_
     clear hKK hu3u4
     (try simp only [Act.put, jA, jB, jC, jD, jE, jF])
     have hSu4 := HS.out _ Hu4.out
     refine Draws.one (i := 8) (by decide +kernel) rfl (by rfl) (fun K hKK => ?_)
     have hH8 := HH.out _ Hu4.out g4 hl4 _ hg4
     obtain ⟨y8, z8⟩ := hH8.top1
     have hX8 := lone_it hb12 hc12 hm12 hn12 hb15 hc15 hm15 (fun e => by cases e)
     go_simp
     refine hKK.out _ _ (fun h => absurd (by decide) h) ?_
     clear hKK
     (try simp only [Act.put, jA, jB, jC, jD, jE, jF])
     refine Draws.done (by decide +kernel) ?_ _
     exact HEND.out _ g4 gs A12 c12 (some ⟨q15, 0, none⟩) c15 _ (by rw [HE.out]) Hu4.out hH8 hg4 hl4 hgs hls hX8
    exact Alts.nil
   refine Alts.cons rfl (by rfl) (fun K hKK => ?_) ?_
   ·skip
    go_simp
    obtain ⟨u2, eu2⟩ : ∃ V, u1.alloc (Obj.cells #[.slice none 0 0] 29) = V := ⟨_, rfl⟩
    have hu1u2 : Below u1.heap.size u1 u2 := by rw [← eu2]; exact (Below.refl _ u1).alloc (Nat.le_refl _) _
    have hg4 : u2.heap[u1.heap.size]? = some (Obj.cells #[.slice none 0 0] 29 (0, 0)) := by rw [← eu2]; exact heap_alloc_new _ _
    obtain ⟨g4, eg4⟩ : ∃ g, u1.heap.size = g := ⟨_, rfl⟩
    have hl4 : w3.heap.size ≤ g4 := by rw [← eg4]; exact Hu1.out.size
    rw [eg4] at hg4 ⊢
    rw [eu2]
    clear eu2 eg4
    have Hu2 := Lib.hid (Hu1.out.trans (hu1u2.mono Hu1.out.size))
    replace hb12 := hb12.on hu1u2
    refine hKK.out _ _ (fun _ => HS.out _ Hu2.out) ?_
    clear hKK hu1u2
    (try simp only [Act.put, jA, jB, jC, jD, jE, jF])
    have hSu2 := HS.out _ Hu2.out
    refine Draws.one (i := 4) (by decide +kernel) rfl (by rfl) (fun K hKK => ?_)
    obtain ⟨u3, c15, hrun, hu2u3, hb15, hc15, hm15⟩ := conv_own u2 own (by omega)
    obtain ⟨q15, eq15⟩ : ∃ q, u2.heap.size = q := ⟨_, rfl⟩
    rw [eq15, hol] at hrun hb15; rw [hol] at hc15
    go_simp
    clear hrun eq15
    have Hu3 := Lib.hid (Hu2.out.trans (hu2u3.mono Hu2.out.size))
    replace hb12 := hb12.on hu2u3
    replace hg4 := (hu2u3.block _ (blk_lt hg4)).trans hg4
    refine hKK.out _ _ (fun _ => HS.out _ Hu3.out) ?_
    clear hKK hu2u3
    (try simp only [Act.put, jA, jB, jC, jD, jE, jF])
    have hSu3 := HS.out _ Hu3.out
    refine Draws.take (i := 5) (v := ?_) (by decide +kernel) rfl (by rfl) (fun _ => rfl) (by decide +kernel) (by decide +kernel) (by decide +kernel) (by decide +kernel) (fun _ _ _ h => h) (by assumption) ?_ ?_
    rotate_left
    focus (intro w0 hSw; (try dsimp only at hSw); go_simp; (try (with_reducible rfl)); done)
    (try simp only [Act.put, jA, jB, jC, jD, jE, jF])
    refine Draws.one (i := 6) (by decide +kernel) rfl (by rfl) (fun K hKK => ?_)
    go_simp
    obtain ⟨u4, eu4⟩ : ∃ V, u3.alloc (Obj.cells #[.slice A12 key.length c12, .slice (some ⟨q15, 0, none⟩) ol.length c15] 39) = V := ⟨_, rfl⟩
    have hu3u4 : Below u3.heap.size u3 u4 := by rw [← eu4]; exact (Below.refl _ u3).alloc (Nat.le_refl _) _
    have hgs : u4.heap[u3.heap.size]? = some (Obj.cells #[.slice A12 key.length c12, .slice (some ⟨q15, 0, none⟩) ol.length c15] 39 (0, 0)) := by rw [← eu4]; exact heap_alloc_new _ _
    obtain ⟨gs, egs⟩ : ∃ g, u3.heap.size = g := ⟨_, rfl⟩
    have hls : w3.heap.size ≤ gs := by rw [← egs]; exact Hu3.out.size
    rw [egs] at hgs ⊢
    rw [eu4]
    clear eu4 egs
    have Hu4 := Lib.hid (Hu3.out.trans (hu3u4.mono Hu3.out.size))
    replace hb12 := hb12.on hu3u4
    replace hb15 := hb15.on hu3u4
    replace hg4 := (hu3u4.block _ (blk_lt hg4)).trans hg4
    refine hKK.out _ _ (fun _ => HS.out _ Hu4.out) ?_
    clear hKK hu3u4
    (try simp only [Act.put, jA, jB, jC, jD, jE, jF])
    have hSu4 := HS.out _ Hu4.out
    refine Draws.one (i := 8) (by decide +kernel) rfl (by rfl) (fun K hKK => ?_)
    have hH8 := HH.out _ Hu4.out g4 hl4 _ hg4
    obtain ⟨y8, z8⟩ := hH8.top1
    have hX8 := lone_it hb12 hc12 hm12 hn12 hb15 hc15 hm15 (fun e => by cases e)
    go_simp
    refine hKK.out _ _ (fun h => absurd (by decide) h) ?_
    clear hKK
    (try simp only [Act.put, jA, jB, jC, jD, jE, jF])
    refine Draws.done (by decide +kernel) ?_ _
    exact HEND.out _ g4 gs A12 c12 (some ⟨q15, 0, none⟩) c15 _ (by rw [HE.out]) Hu4.out hH8 hg4 hl4 hgs hls hX8
   exact Alts.nil
  refine Alts.cons rfl (by rfl) (fun K hKK => ?_) ?_
  ·skip
   obtain ⟨u1, c15, hrun, hw3u1, hb15, hc15, hm15⟩ := conv_own w3 own (by omega)
   obtain ⟨q15, eq15⟩ : ∃ q, w3.heap.size = q := ⟨_, rfl⟩
   rw [eq15, hol] at hrun hb15; rw [hol] at hc15
   go_simp
   clear hrun eq15
   have Hu1 := Lib.hid (Hw3.out.trans (hw3u1.mono Hw3.out.size))
   refine hKK.out _ _ (fun _ => HS.out _ Hu1.out) ?_
   clear hKK hw3u1
   (try simp only [Act.put, jA, jB, jC, jD, jE, jF])
   have hSu1 := HS.out _ Hu1.out
   refine Draws.alts (rs := [1, 7]) (by decide +kernel) (by simp) ?_
   refine Alts.cons rfl (by rfl) (fun K hKK => ?_) ?_
   ·skip
    go_simp
    refine ⟨trivial, (callsIn_wide.2 (HPN.out _ Hu1.out)).mono ?_⟩
    rintro e u2 ⟨v12, rfl, hR12⟩
    obtain ⟨A12, c12, rfl, hb12, hc12, hm12, hn12⟩ := hR12.byT
    have hu1u2 := hR12.1
    have Hu2 := Lib.hid (Hu1.out.trans (hu1u2.mono Hu1.out.size))
    replace hb15 := hb15.on hu1u2
    refine hKK.out _ _ (fun _ => HS.out _ Hu2.out) ?_
    clear hKK hu1u2 hR12
    (try simp only [Act.put, jA, jB, jC, jD, jE, jF])
    have hSu2 := HS.out _ Hu2.out
    refine Draws.take (i := 5) (v := ?_) (by decide +kernel) rfl (by rfl) (fun _ => rfl) (by decide +kernel) (by decide +kernel) (by decide +kernel) (by decide +kernel) (fun _ _ _ h => h) (by assumption) ?_ ?_
    rotate_left
    focus (intro w0 hSw; (try dsimp only at hSw); go_simp; (try (with_reducible rfl)); done)
    (try simp only [Act.put, jA, jB, jC, jD, jE, jF])
    refine Draws.alts (rs := [6, 7]) (by decide +kernel) (by simp) ?_
    refine Alts.cons rfl (by rfl) (fun K hKK => ?_) ?_
    ·skip
     go_simp
     obtain ⟨u3, eu3⟩ : ∃ V, u2.alloc (Obj.cells #[.slice A12 key.length c12, .slice (some ⟨q15, 0, none⟩) ol.length c15] 39) = V := ⟨_, rfl⟩
     have hu2u3 : Below u2.heap.size u2 u3 := by rw [← eu3]; exact (Below.refl _ u2).alloc (Nat.le_refl _) _
     have hgs : u3.heap[u2.heap.size]? = some (Obj.cells #[.slice A12 key.length c12, .slice (some ⟨q15, 0, none⟩) ol.length c15] 39 (0, 0)) := by rw [← eu3]; exact heap_alloc_new _ _
     obtain ⟨gs, egs⟩ : ∃ g, u2.heap.size = g := ⟨_, rfl⟩
     have hls : w3.heap.size ≤ gs := by rw [← egs]; exact Hu2.out.size
     rw [egs] at hgs ⊢
     rw [eu3]
     clear eu3 egs
     have Hu3 := Lib.hid (Hu2.out.trans (hu2u3.mono Hu2.out.size))
     replace hb12 := hb12.on hu2u3
     replace hb15 := hb15.on hu2u3
     refine hKK.out _ _ (fun _ => HS.out _ Hu3.out) ?_
     clear hKK hu2u3
     (try simp only [Act.put, jA, jB, jC, jD, jE, jF])
     have hSu3 := HS.out _ Hu3.out
     refine Draws.one (i := 7) (by decide +kernel) rfl (by rfl) (fun K hKK => ?_)
     go_simp
     obtain ⟨u4, eu4⟩ : ∃ V, u3.alloc (Obj.cells #[.slice none 0 0] 29) = V := ⟨_, rfl⟩
     have hu3u4 : Below u3.heap.size u3 u4 := by rw [← eu4]; exact (Below.refl _ u3).alloc (Nat.le_refl _) _
     have hg4 : u4.heap[u3.heap.size]? = some (Obj.cells #[.slice none 0 0] 29 (0, 0)) := by rw [← eu4]; exact heap_alloc_new _ _
     obtain ⟨g4, eg4⟩ : ∃ g, u3.heap.size = g := ⟨_, rfl⟩
     have hl4 : w3.heap.size ≤ g4 := by rw [← eg4]; exact Hu3.out.size
     rw [eg4] at hg4 ⊢
     rw [eu4]
     clear eu4 eg4
     have Hu4 := Lib.hid (Hu3.out.trans (hu3u4.mono Hu3.out.size))
     replace hb12 := hb12.on hu3u4
     replace hb15 := hb15.on hu3u4
     replace hgs := (hu3u4.block _ (blk_lt hgs)).trans hgs
     refine hKK.out _ _ (fun _ => HS.out _ Hu4.out) ?_
     clear hKK hu3u4
     (try simp only [Act.put, jA, jB, jC, jD, jE, jF])
     have hSu4 := HS.out _ Hu4.out
     refine Draws.one (i := 8) (by decide +kernel) rfl (by rfl) (fun K hKK => ?_)
     have hH8 := HH.out _ Hu4.out g4 hl4 _ hg4
     obtain ⟨y8, z8⟩ := hH8.top1
     have hX8 := lone_it hb12 hc12 hm12 hn12 hb15 hc15 hm15 (fun e => by cases e)
     go_simp
     refine hKK.out _ _ (fun h => absurd (by decide) h) ?_
     clear hKK
     (try simp only [Act.put, jA, jB, jC, jD, jE, jF])
     refine Draws.done (by decide +kernel) ?_ _
     exact HEND.out _ g4 gs A12 c12 (some ⟨q15, 0, none⟩) c15 _ (by rw [HE.out]) Hu4.out hH8 hg4 hl4 hgs hls hX8
    refine Alts.cons rfl (by rfl) (fun K hKK => ?_) ?_
    ·skip
     go_simp
     obtain ⟨u3, eu3⟩ : ∃ V, u2.alloc (Obj.cells #[.slice none 0 0] 29) = V := ⟨_, rfl⟩
     have hu2u3 : Below u2.heap.size u2 u3 := by rw [← eu3]; exact (Below.refl _ u2).alloc (Nat.le_refl _) _
     have hg4 : u3.heap[u2.heap.size]? = some (Obj.cells #[.slice none 0 0] 29 (0, 0)) := by rw [← eu3]; exact heap_alloc_new _ _
     obtain ⟨g4, eg4⟩ : ∃ g, u2.heap.size = g := ⟨_, rfl⟩
     have hl4 : w3.heap.size ≤ g4 := by rw [← eg4]; exact Hu2.out.size
     rw [eg4] at hg4 ⊢
     rw [eu3]
     clear eu3 eg4
     have Hu3 := Lib.hid (Hu2.out.trans (hu2u3.mono Hu2.out.size))
     replace hb12 := hb12.on hu2u3
     replace hb15 := hb15.on hu2u3
     refine hKK.out _ _ (fun _ => HS.out _ Hu3.out) ?_
     clear hKK hu2u3
     (try simp only [Act.put, jA, jB, jC, jD, jE, jF])
     have hSu3 := HS.out _ Hu3.out
     refine Draws.one (i := 6) (by decide +kernel) rfl (by rfl) (fun K hKK => ?_)
     go_simp
     obtain ⟨u4, eu4⟩ : ∃ V, u3.alloc (Obj.cells #[.slice A12 key.length c12, .slice (some ⟨q15, 0, none⟩) ol.length c15] 39) = V := ⟨_, rfl⟩
     have hu3u4 : Below u3.heap.size u3 u4 := by rw [← eu4]; exact (Below.refl _ u3).alloc (Nat.le_refl _) _
     have hgs : u4.heap[u3.heap.size]? = some (Obj.cells #[.slice A12 key.length c12, .slice (some ⟨q15, 0, none⟩) ol.length c15] 39 (0, 0)) := by rw [← eu4]; exact heap_alloc_new _ _
     obtain ⟨gs, egs⟩ : ∃ g, u3.heap.size = g := ⟨_, rfl⟩
     have hls : w3.heap.size ≤ gs := by rw [← egs]; exact Hu3.out.size
     rw [egs] at hgs ⊢
     rw [eu4]
     clear eu4 egs
     have Hu4 := Lib.hid (Hu3.out.trans (hu3u4.mono Hu3.out.size))
     replace hb12 := hb12.on hu3u4
     replace hb15 := hb15.on hu3u4
     replace hg4 := (hu3u4.block _ (blk_lt hg4)).trans hg4
     refine hKK.out _ _ (fun _ => HS.out _ Hu4.out) ?_
     clear hKK hu3u4
     (try simp only [Act.put, jA, jB, jC, jD, jE, jF])
     have hSu4 := HS.out _ Hu4.out
     refine Draws.one (i := 8) (by decide +kernel) rfl (by rfl) (fun K hKK => ?_)
     have hH8 := HH.out _ Hu4.out g4 hl4 _ hg4
     obtain ⟨y8, z8⟩ := hH8.top1
     have hX8 := lone_it hb12 hc12 hm12 hn12 hb15 hc15 hm15 (fun e => by cases e)
     go_simp
     refine hKK.out _ _ (fun h => absurd (by decide) h) ?_
     clear hKK
     (try simp only [Act.put, jA, jB, jC, jD, jE, jF])
     refine Draws.done (by decide +kernel) ?_ _
     exact HEND.out _ g4 gs A12 c12 (some ⟨q15, 0, none⟩) c15 _ (by rw [HE.out]) Hu4.out hH8 hg4 hl4 hgs hls hX8
    exact Alts.nil
   refine Alts.cons rfl (by rfl) (fun K hKK => ?_) ?_
   ·skip
    go_simp
    obtain ⟨u2, eu2⟩ : ∃ V, u1.alloc (Obj.cells #[.slice none 0 0] 29) = V := ⟨_, rfl⟩
    have hu1u2 : Below u1.heap.size u1 u2 := by rw [← eu2]; exact (Below.refl _ u1).alloc (Nat.le_refl _) _
    have hg4 : u2.heap[u1.heap.size]? = some (Obj.cells #[.slice none 0 0] 29 (0, 0)) := by rw [← eu2]; exact heap_alloc_new _ _
    obtain ⟨g4, eg4⟩ : ∃ g, u1.heap.size = g := ⟨_, rfl⟩
    have hl4 : w3.heap.size ≤ g4 := by rw [← eg4]; exact Hu1.out.size
    rw [eg4] at hg4 ⊢
    rw [eu2]
    clear eu2 eg4
    have Hu2 := Lib.hid (Hu1.out.trans (hu1u2.mono Hu1.out.size))
    replace hb15 := hb15.on hu1u2
    refine hKK.out _ _ (fun _ => HS.out _ Hu2.out) ?_
    clear hKK hu1u2
    (try simp only [Act.put, jA, jB, jC, jD, jE, jF])
    have hSu2 := HS.out _ Hu2.out
    refine Draws.one (i := 1) (by decide +kernel) rfl (by rfl) (fun K hKK => ?_)
    go_simp
    refine ⟨trivial, (callsIn_wide.2 (HPN.out _ Hu2.out)).mono ?_⟩
    rintro e u3 ⟨v12, rfl, hR12⟩
    obtain ⟨A12, c12, rfl, hb12, hc12, hm12, hn12⟩ := hR12.byT
    have hu2u3 := hR12.1
    have Hu3 := Lib.hid (Hu2.out.trans (hu2u3.mono Hu2.out.size))
    replace hb15 := hb15.on hu2u3
    replace hg4 := (hu2u3.block _ (blk_lt hg4)).trans hg4
    refine hKK.out _ _ (fun _ => HS.out _ Hu3.out) ?_
    clear hKK hu2u3 hR12
    (try simp only [Act.put, jA, jB, jC, jD, jE, jF])
    have hSu3 := HS.out _ Hu3.out
    refine Draws.take (i := 5) (v := ?_) (by decide +kernel) rfl (by rfl) (fun _ => rfl) (by decide +kernel) (by decide +kernel) (by decide +kernel) (by decide +kernel) (fun _ _ _ h => h) (by assumption) ?_ ?_
    rotate_left
    focus (intro w0 hSw; (try dsimp only at hSw); go_simp; (try (with_reducible rfl)); done)
    (try simp only [Act.put, jA, jB, jC, jD, jE, jF])
    refine Draws.one (i := 6) (by decide +kernel) rfl (by rfl) (fun K hKK => ?_)
    go_simp
    obtain ⟨u4, eu4⟩ : ∃ V, u3.alloc (Obj.cells #[.slice A12 key.length c12, .slice (some ⟨q15, 0, none⟩) ol.length c15] 39) = V := ⟨_, rfl⟩
    have hu3u4 : Below u3.heap.size u3 u4 := by rw [← eu4]; exact (Below.refl _ u3).alloc (Nat.le_refl _) _
    have hgs : u4.heap[u3.heap.size]? = some (Obj.cells #[.slice A12 key.length c12, .slice (some ⟨q15, 0, none⟩) ol.length c15] 39 (0, 0)) := by rw [← eu4]; exact heap_alloc_new _ _
    obtain ⟨gs, egs⟩ : ∃ g, u3.heap.size = g := ⟨_, rfl⟩
    have hls : w3.heap.size ≤ gs := by rw [← egs]; exact Hu3.out.size
    rw [egs] at hgs ⊢
    rw [eu4]
    clear eu4 egs
    have Hu4 := Lib.hid (Hu3.out.trans (hu3u4.mono Hu3.out.size))
    replace hb12 := hb12.on hu3u4
    replace hb15 := hb15.on hu3u4
    replace hg4 := (hu3u4.block _ (blk_lt hg4)).trans hg4
    refine hKK.out _ _ (fun _ => HS.out _ Hu4.out) ?_
    clear hKK hu3u4
    (try simp only [Act.put, jA, jB, jC, jD, jE, jF])
    have hSu4 := HS.out _ Hu4.out
    refine Draws.one (i := 8) (by decide +kernel) rfl (by rfl) (fun K hKK => ?_)
    have hH8 := HH.out _ Hu4.out g4 hl4 _ hg4
    obtain ⟨y8, z8⟩ := hH8.top1
    have hX8 := lone_it hb12 hc12 hm12 hn12 hb15 hc15 hm15 (fun e => by cases e)
    go_simp
    refine hKK.out _ _ (fun h => absurd (by decide) h) ?_
    clear hKK
    (try simp only [Act.put, jA, jB, jC, jD, jE, jF])
    refine Draws.done (by decide +kernel) ?_ _
    exact HEND.out _ g4 gs A12 c12 (some ⟨q15, 0, none⟩) c15 _ (by rw [HE.out]) Hu4.out hH8 hg4 hl4 hgs hls hX8
   exact Alts.nil
  refine Alts.cons rfl (by rfl) (fun K hKK => ?_) ?_
  ·skip
   go_simp
   obtain ⟨u1, eu1⟩ : ∃ V, w3.alloc (Obj.cells #[.slice none 0 0] 29) = V := ⟨_, rfl⟩
   have hw3u1 : Below w3.heap.size w3 u1 := by rw [← eu1]; exact (Below.refl _ w3).alloc (Nat.le_refl _) _
   have hg4 : u1.heap[w3.heap.size]? = some (Obj.cells #[.slice none 0 0] 29 (0, 0)) := by rw [← eu1]; exact heap_alloc_new _ _
   obtain ⟨g4, eg4⟩ : ∃ g, w3.heap.size = g := ⟨_, rfl⟩
   have hl4 : w3.heap.size ≤ g4 := by rw [← eg4]; exact Hw3.out.size
   rw [eg4] at hg4 ⊢
   rw [eu1]
   clear eu1 eg4
   have Hu1 := Lib.hid (Hw3.out.trans (hw3u1.mono Hw3.out.size))
   refine hKK.out _ _ (fun _ => HS.out _ Hu1.out) ?_
   clear hKK hw3u1
   (try simp only [Act.put, jA, jB, jC, jD, jE, jF])
   have hSu1 := HS.out _ Hu1.out
   refine Draws.alts (rs := [1, 4]) (by decide +kernel) (by simp) ?_
   refine Alts.cons rfl (by rfl) (fun K hKK => ?_) ?_
   ·skip
    go_simp
    refine ⟨trivial, (callsIn_wide.2 (HPN.out _ Hu1.out)).mono ?_⟩
    rintro e u2 ⟨v12, rfl, hR12⟩
    obtain ⟨A12, c12, rfl, hb12, hc12, hm12, hn12⟩ := hR12.byT
    have hu1u2 := hR12.1
    have Hu2 := Lib.hid (Hu1.out.trans (hu1u2.mono Hu1.out.size))
    replace hg4 := (hu1u2.block _ (blk_lt hg4)).trans hg4
    refine hKK.out _ _ (fun _ => HS.out _ Hu2.out) ?_
    clear hKK hu1u2 hR12
    (try simp only [Act.put, jA, jB, jC, jD, jE, jF])
    have hSu2 := HS.out _ Hu2.out
    refine Draws.one (i := 4) (by decide +kernel) rfl (by rfl) (fun K hKK => ?_)
    obtain ⟨u3, c15, hrun, hu2u3, hb15, hc15, hm15⟩ := conv_own u2 own (by omega)
    obtain ⟨q15, eq15⟩ : ∃ q, u2.heap.size = q := ⟨_, rfl⟩
    rw [eq15, hol] at hrun hb15; rw [hol] at hc15
    go_simp
    clear hrun eq15
    have Hu3 := Lib.hid (Hu2.out.trans (hu2u3.mono Hu2.out.size))
    replace hb12 := hb12.on hu2u3
    replace hg4 := (hu2u3.block _ (blk_lt hg4)).trans hg4
    refine hKK.out _ _ (fun _ => HS.out _ Hu3.out) ?_
    clear hKK hu2u3
    (try simp only [Act.put, jA, jB, jC, jD, jE, jF])
    have hSu3 := HS.out _ Hu3.out
    refine Draws.take (i := 5) (v := ?_) (by decide +kernel) rfl (by rfl) (fun _ => rfl) (by decide +kernel) (by decide +kernel) (by decide +kernel) (by decide +kernel) (fun _ _ _ h => h) (by assumption) ?_ ?_
    rotate_left
    focus (intro w0 hSw; (try dsimp only at hSw); go_simp; (try (with_reducible rfl)); done)
    (try simp only [Act.put, jA, jB, jC, jD, jE, jF])
    refine Draws.one (i := 6) (by decide +kernel) rfl (by rfl) (fun K hKK => ?_)
    go_simp
    obtain ⟨u4, eu4⟩ : ∃ V, u3.alloc (Obj.cells #[.slice A12 key.length c12, .slice (some ⟨q15, 0, none⟩) ol.length c15] 39) = V := ⟨_, rfl⟩
    have hu3u4 : Below u3.heap.size u3 u4 := by rw [← eu4]; exact (Below.refl _ u3).alloc (Nat.le_refl _) _
    have hgs : u4.heap[u3.heap.size]? = some (Obj.cells #[.slice A12 key.length c12, .slice (some ⟨q15, 0, none⟩) ol.length c15] 39 (0, 0)) := by rw [← eu4]; exact heap_alloc_new _ _
    obtain ⟨gs, egs⟩ : ∃ g, u3.heap.size = g := ⟨_, rfl⟩
    have hls : w3.heap.size ≤ gs := by rw [← egs]; exact Hu3.out.size
    rw [egs] at hgs ⊢
    rw [eu4]
    clear eu4 egs
    have Hu4 := Lib.hid (Hu3.out.trans (hu3u4.mono Hu3.out.size))
    replace hb12 := hb12.on hu3u4
    replace hb15 := hb15.on hu3u4
    replace hg4 := (hu3u4.block _ (blk_lt hg4)).trans hg4
    refine hKK.out _ _ (fun _ => HS.out _ Hu4.out) ?_
    clear hKK hu3u4
    (try simp only [Act.put, jA, jB, jC, jD, jE, jF])
    have hSu4 := HS.out _ Hu4.out
    refine Draws.one (i := 8) (by decide +kernel) rfl (by rfl) (fun K hKK => ?_)
    have hH8 := HH.out _ Hu4.out g4 hl4 _ hg4
    obtain ⟨y8, z8⟩ := hH8.top1
    have hX8 := lone_it hb12 hc12 hm12 hn12 hb15 hc15 hm15 (fun e => by cases e)
    go_simp
    refine hKK.out _ _ (fun h => absurd (by decide) h) ?_
    clear hKK
    (try simp only [Act.put, jA, jB, jC, jD, jE, jF])
    refine Draws.done (by decide +kernel) ?_ _
    exact HEND.out _ g4 gs A12 c12 (some ⟨q15, 0, none⟩) c15 _ (by rw [HE.out]) Hu4.out hH8 hg4 hl4 hgs hls hX8
   refine Alts.cons rfl (by rfl) (fun K hKK => ?_) ?_
   ·skip
    obtain ⟨u2, c15, hrun, hu1u2, hb15, hc15, hm15⟩ := conv_own u1 own (by omega)
    obtain ⟨q15, eq15⟩ : ∃ q, u1.heap.size = q := ⟨_, rfl⟩
    rw [eq15, hol] at hrun hb15; rw [hol] at hc15
    go_simp
    clear hrun eq15
    have Hu2 := Lib.hid (Hu1.out.trans (hu1u2.mono Hu1.out.size))
    replace hg4 := (hu1u2.block _ (blk_lt hg4)).trans hg4
    refine hKK.out _ _ (fun _ => HS.out _ Hu2.out) ?_
    clear hKK hu1u2
    (try simp only [Act.put, jA, jB, jC, jD, jE, jF])
    have hSu2 := HS.out _ Hu2.out
    refine Draws.one (i := 1) (by decide +kernel) rfl (by rfl) (fun K hKK => ?_)
    go_simp
    refine ⟨trivial, (callsIn_wide.2 (HPN.out _ Hu2.out)).mono ?_⟩
    rintro e u3 ⟨v12, rfl, hR12⟩
    obtain ⟨A12, c12, rfl, hb12, hc12, hm12, hn12⟩ := hR12.byT
    have hu2u3 := hR12.1
    have Hu3 := Lib.hid (Hu2.out.trans (hu2u3.mono Hu2.out.size))
    replace hb15 := hb15.on hu2u3
    replace hg4 := (hu2u3.block _ (blk_lt hg4)).trans hg4
    refine hKK.out _ _ (fun _ => HS.out _ Hu3.out) ?_
    clear hKK hu2u3 hR12
    (try simp only [Act.put, jA, jB, jC, jD, jE, jF])
    have hSu3 := HS.out _ Hu3.out
    refine Draws.take (i := 5) (v := ?_) (by decide +kernel) rfl (by rfl) (fun _ => rfl) (by decide +kernel) (by decide +kernel) (by decide +kernel) (by decide +kernel) (fun _ _ _ h => h) (by assumption) ?_ ?_
    rotate_left
    focus (intro w0 hSw; (try dsimp only at hSw); go_simp; (try (with_reducible rfl)); done)
    (try simp only [Act.put, jA, jB, jC, jD, jE, jF])
    refine Draws.one (i := 6) (by decide +kernel) rfl (by rfl) (fun K hKK => ?_)
    go_simp
    obtain ⟨u4, eu4⟩ : ∃ V, u3.alloc (Obj.cells #[.slice A12 key.length c12, .slice (some ⟨q15, 0, none⟩) ol.length c15] 39) = V := ⟨_, rfl⟩
    have hu3u4 : Below u3.heap.size u3 u4 := by rw [← eu4]; exact (Below.refl _ u3).alloc (Nat.le_refl _) _
    have hgs : u4.heap[u3.heap.size]? = some (Obj.cells #[.slice A12 key.length c12, .slice (some ⟨q15, 0, none⟩) ol.length c15] 39 (0, 0)) := by rw [← eu4]; exact heap_alloc_new _ _
    obtain ⟨gs, egs⟩ : ∃ g, u3.heap.size = g := ⟨_, rfl⟩
    have hls : w3.heap.size ≤ gs := by rw [← egs]; exact Hu3.out.size
    rw [egs] at hgs ⊢
    rw [eu4]
    clear eu4 egs
    have Hu4 := Lib.hid (Hu3.out.trans (hu3u4.mono Hu3.out.size))
    replace hb12 := hb12.on hu3u4
    replace hb15 := hb15.on hu3u4
    replace hg4 := (hu3u4.block _ (blk_lt hg4)).trans hg4
    refine hKK.out _ _ (fun _ => HS.out _ Hu4.out) ?_
    clear hKK hu3u4
    (try simp only [Act.put, jA, jB, jC, jD, jE, jF])
    have hSu4 := HS.out _ Hu4.out
    refine Draws.one (i := 8) (by decide +kernel) rfl (by rfl) (fun K hKK => ?_)
    have hH8 := HH.out _ Hu4.out g4 hl4 _ hg4
    obtain ⟨y8, z8⟩ := hH8.top1
    have hX8 := lone_it hb12 hc12 hm12 hn12 hb15 hc15 hm15 (fun e => by cases e)
    go_simp
    refine hKK.out _ _ (fun h => absurd (by decide) h) ?_
    clear hKK
    (try simp only [Act.put, jA, jB, jC, jD, jE, jF])
    refine Draws.done (by decide +kernel) ?_ _
    exact HEND.out _ g4 gs A12 c12 (some ⟨q15, 0, none⟩) c15 _ (by rw [HE.out]) Hu4.out hH8 hg4 hl4 hgs hls hX8
   exact Alts.nil
  exact Alts.nil
 case rest =>
  intro e a' w' he
  cases e <;> first | exact he.elim | skip
  obtain ⟨g4, gs, A12, c12, A15, c15, rfl, hH5, hrow5, hB5⟩ := he
  have x1 := hH5.cell (.tail _ (.tail _ (.head _))) 1
  simp only [List.getElem?_toArray, List.getElem?_cons_zero, List.getElem?_cons_succ] at x1
  clear HPN HS HH hH4 hB4 hw3
  rw [hE]
  dsimp only
  clear hE
  gi_wp2_with (refine ⟨trivial, ?_⟩; gi_at_call 61; refine (chunks_in Fence.wide _ trivial rfl _ _ _ _).mono ?_; rintro e w6 ⟨rfl, rfl⟩)
  have hbw := (Below.refl _ w').alloc (Nat.le_refl _) (Obj.cells #[.slice A ps.length cap] 23 (0, 0))
  have HI : BoxRow w [(gh, #[.slice A2 hd.length c2], 37), (w.heap.size, #[.int .i64 id, .slice A ps.length cap, .string own], 58)] g4 [(key, ol)] (w'.alloc (Obj.cells #[.slice A ps.length cap] 23)) := ⟨_, hH5.on hbw, hrow5.on hbw⟩
  have HI2 : ByT (w'.alloc (Obj.cells #[.slice A ps.length cap] 23)) A2 hd := hB5.on hbw
  have hbx := heap_alloc_new w' (Obj.cells #[.slice A ps.length cap] 23 (0, 0))
  have hsz0 := hH5.1.size
  have hsz : (w'.alloc (Obj.cells #[.slice A ps.length cap] 23)).heap.size = w'.heap.size + 1 := by simp
  obtain ⟨W0, hW0⟩ : ∃ W0, w'.alloc (Obj.cells #[.slice A ps.length cap] 23) = W0 := ⟨_, rfl⟩
  rw [hW0] at HI HI2 hbx hsz ⊢
  have hg4 := hH5.lt (.head _)
  clear hW0 hbw hH5 hrow5 hB5 x1
  obtain ⟨gb, hgb⟩ : ∃ g, w'.heap.size = g := ⟨_, rfl⟩
  rw [hgb] at hbx hsz hsz0 ⊢
  refine wpIn_rangeFunc_ownH rfl (by omega) (gf := 100) (lb := #[.pointer (some ⟨gb, 0, none⟩)]) rfl trivial (enters_of Tryz.func100 (by kernel_rfl) rfl)
   (chunks_stops Fence.wide 7 trivial rfl (by omega) gb ps A cap (by omega) hcap w W0 HA.out hbx) Kept.trans (Kept.put (by omega)) (Below.refl _ _) (fun _ => rfl)
   (fun pre W => BoxRow w [(gh, #[.slice A2 hd.length c2], 37), (w.heap.size, #[.int .i64 id, .slice A ps.length cap, .string own], 58)] g4 ((key, ol) :: pre.map fun i => parI hd ps i.1) W ∧ ByT W A2 hd)
   (fun _ _ _ => False)
   ((BoxRow.own (by omega) _).and byT_own)
   (fun _ _ _ _ _ hs _ _ => hs)
   ⟨HI, HI2⟩
   (fun x a' _ => a' = { tmps := #[.agg #[.int .i64 id, .slice A ps.length cap, .string own], .pointer (some ⟨w.heap.size, 0, none⟩), .slice none 0 0, .pointer (some ⟨gh, 0, none⟩), .pointer (some ⟨g4, 0, none⟩), .int .i64 (x.1 : Int), chV A ps.length cap x.1, .slice (some ⟨gq, 0, none⟩) 1 1, .pointer (some ⟨w.heap.size, 0, none⟩), .int .i64 id, .slice A2 hd.length c2, .slice A2 hd.length c2, .slice A12 key.length c12, .pointer (some ⟨w.heap.size, 2, none⟩), .string own, .slice A15 ol.length c15, .agg #[.slice A12 key.length c12, .slice A15 ol.length c15], .slice (some ⟨gs, 0, none⟩) 1 1, .pointer (some ⟨w.heap.size, 1, none⟩), .slice A ps.length cap, .func (.func 100) #[] #[.pointer (some ⟨gb, 0, none⟩)], .int .i64 (x.1 : Int), chV A ps.length cap x.1, undef, undef, undef, undef, undef, undef, undef, undef, undef, undef, undef], defers := [] })
   (fun x a' _ X Y row hs hg hr => hs)
   ?assign ?body ?done ?stop
  case assign =>
   rintro l pre x W K hG hK
   unfold encC
   generalize chV A ps.length cap x.1 = cv at *
   gi_wp2
   exact hK _ _ (KeepsFrom.of_below (Below.refl _ W)) (Kept.refl _ _) hG rfl
  case body =>
   rintro l pre x a' W hl2 ⟨r, hr'⟩ ⟨⟨v, hH, hrow⟩, hBB⟩ rfl hlt2
   have hxk : x.1 * 16 < ps.length := by have := x.2; unfold nch at this; omega
   have hP := chk_pts (HR.out W hH.1) hxk
   have hcg : ∀ p ∈ chk ps x.1, Gd p := fun p hp => HG.out p (by
    unfold chk at hp
    exact List.mem_of_mem_drop (List.mem_of_mem_take hp))
   have hx255 : x.1 + 1 < 256 := by have := x.2; omega
   have hcl : (chk ps x.1).length ≤ 16 := by unfold chk; rw [List.length_take]; omega
   have hpl : ((key, ol) :: pre.map fun i => parI hd ps i.1).length + 1 ≤ 1000000 := by rw [List.length_cons, List.length_map]; omega
   have w1 : IntKind.i64.wrap ((x.1 : Int) + 1) = (x.1 : Int) + 1 := IntWalk.i64_in _ (by omega)
   unfold chV
   rw [← chk_len]
   obtain ⟨Ak, hAk⟩ : ∃ Ak, (A.map fun a => a.add (x.1 * 16 * 2)) = Ak := ⟨_, rfl⟩
   obtain ⟨ck, hck⟩ : ∃ ck, cap - x.1 * 16 = ck := ⟨_, rfl⟩
   rw [hAk] at hP ⊢
   rw [hck]
   have y5 := hH.cell (.head _) 0
   have z5 := hH.cell (.tail _ (.head _)) 0
   simp only [List.getElem?_toArray, List.getElem?_cons_zero] at y5 z5
   have HS5 := Lib.hid (fun W' (h : Below W.heap.size W W') => (show W'.cell? ⟨g4, 0, none⟩ = some v ∧ W'.cell? ⟨gh, 0, none⟩ = some (.slice A2 hd.length c2) from by
    have h1 := (hH.on h).cell (.head _) 0
    have h2 := (hH.on h).cell (.tail _ (.head _)) 0
    simp only [List.getElem?_toArray, List.getElem?_cons_zero] at h1 h2
    exact ⟨h1, h2⟩))
   have hb0 : Below W.heap.size W W.drew := (Below.refl _ W).drew
   have HP4 := PutNum_one (A := A2) (c := c2) (x.1 + 1) (hBB.on hb0).bytes hn2 (by have := HDL.out; omega) hx255
   rw [show ((x.1 + 1 : Nat) : Int) = (x.1 : Int) + 1 by omega] at HP4
   replace HP4 := Lib.hid HP4
   gi_wp2_with fail
   refine Draws.start (X := [9, 10]) (S := fun W' => W'.cell? ⟨g4, 0, none⟩ = some v ∧ W'.cell? ⟨gh, 0, none⟩ = some (.slice A2 hd.length c2)) (by kernel_rfl) ?_
   have hHeld := HS5.out _ hb0
   refine Draws.take (i := 0) (v := ?_) (by decide +kernel) rfl (by rfl) (fun _ => rfl) (by decide +kernel) (by decide +kernel) (by decide +kernel) (by decide +kernel) (fun _ _ _ h => h) (by assumption) ?_ ?_
   rotate_left
   focus (intro w0 hSw; (try dsimp only at hSw); go_simp; (try (with_reducible rfl)); done)
   (try simp only [Act.put, jA, jB, jD, jE, jF])
   refine Draws.take (i := 1) (v := ?_) (by decide +kernel) rfl (by rfl) (fun _ => rfl) (by decide +kernel) (by decide +kernel) (by decide +kernel) (by decide +kernel) (fun _ _ _ h => h) (by assumption) ?_ ?_
   rotate_left
   focus (intro w0 hSw; (try dsimp only at hSw); go_simp; (try (with_reducible rfl)); done)
   (try simp only [Act.put, jA, jB, jC, jD, jE, jF])
   refine Draws.take (i := 2) (v := ?_) (by decide +kernel) rfl (by rfl) (fun _ => rfl) (by decide +kernel) (by decide +kernel) (by decide +kernel) (by decide +kernel) (fun _ _ _ h => h) (by assumption) ?_ ?_
   rotate_left
   focus (intro w0 hSw; (try dsimp only at hSw); go_simp; (try (with_reducible rfl)); done)
   (try simp only [Act.put, jA, jB, jC, jD, jE, jF])
   refine Draws.take (i := 3) (v := ?_) (by decide +kernel) rfl (by rfl) (fun _ => rfl) (by decide +kernel) (by decide +kernel) (by decide +kernel) (by decide +kernel) (fun _ _ _ h => h) (by assumption) ?_ ?_
   rotate_left
   focus (intro w0 hSw; (try dsimp only at hSw); go_simp; (try (with_reducible rfl)); done)
   (try simp only [Act.put, jA, jB, jC, jD, jE, jF])
   refine Draws.take (i := 5) (v := ?_) (by decide +kernel) rfl (by rfl) (fun _ => rfl) (by decide +kernel) (by decide +kernel) (by decide +kernel) (by decide +kernel) (fun _ _ _ h => h) (by assumption) ?_ ?_
   rotate_left
   focus (intro w0 hSw; (try dsimp only at hSw); go_simp; (try (with_reducible rfl)); done)
   (try simp only [Act.put, jA, jB, jC, jD, jE, jF])
   refine Draws.one (i := 4) (by decide +kernel) rfl (by rfl) (fun K hKK => ?_)
   go_simp
   refine ⟨trivial, (CallsIn.inRound l (callsIn_wide.2 HP4.out)).mono ?_⟩
   rintro e w5 ⟨v5, rfl, hR5⟩
   obtain ⟨A5, c5, rfl, hb5, hc5, hm5, hn5⟩ := hR5.byT
   have hB5 : Below W.heap.size W w5 := hb0.trans (hR5.1.mono hb0.size)
   have hHeld5 := HS5.out _ hB5
   refine hKK.out _ _ (fun _ => hHeld5) ?_
   (try simp only [Act.put, jA, jB, jC, jD, jE, jF])
   clear hKK hR5 HP4 hHeld
   obtain ⟨kk, hkk⟩ : ∃ kk, hd ++ [UInt8.ofNat (x.1 + 1)] = kk := ⟨_, rfl⟩
   rw [hkk] at hb5 hc5 ⊢
   have HBO := Lib.hid (bytesOf_any (chk ps x.1) Ak ck (by omega) hcg w5 (hP.on hB5))
   refine Draws.one (i := 6) (by decide +kernel) rfl (by rfl) (fun K hKK => ?_)
   go_simp
   refine ⟨trivial, (CallsIn.inRound l (callsIn_wide.2 HBO.out)).mono ?_⟩
   rintro e w6 ⟨v6, rfl, hR6⟩
   have hB6 : Below W.heap.size W w6 := hB5.trans (hR6.1.mono hB5.size)
   obtain ⟨A6, c6, rfl, hb6, hc6, hm6, hn6⟩ := hR6.byT
   have hb56 := hb5.on hR6.1
   have hHeld6 := HS5.out _ hB6
   refine hKK.out _ _ (fun _ => hHeld6) ?_
   (try simp only [Act.put, jA, jB, jC, jD, jE, jF])
   clear hHeld5 hKK HBO
   refine Draws.take (i := 7) (v := ?_) (by decide +kernel) rfl (by rfl) (fun _ => rfl) (by decide +kernel) (by decide +kernel) (by decide +kernel) (by decide +kernel) (fun _ _ _ h => h) (by assumption) ?_ ?_
   rotate_left
   focus (intro w0 hSw; (try dsimp only at hSw); go_simp; (try (with_reducible rfl)); done)
   (try simp only [Act.put, jA, jB, jC, jD, jE, jF])
   refine Draws.one (i := 8) (by decide +kernel) rfl (by rfl) (fun K hKK => ?_)
   go_simp
   have hX6 := lone_it hb56 hc5 hm5 hn5 hb6 hc6 hm6 hn6
   have hb7 : Below w6.heap.size w6 (w6.alloc (Obj.cells #[.slice A5 kk.length c5, .slice A6 (ptsB (chk ps x.1)).length c6] 39)) := (Below.refl _ w6).alloc (Nat.le_refl _) _
   have hg7 := heap_alloc_new w6 (Obj.cells #[.slice A5 kk.length c5, .slice A6 (ptsB (chk ps x.1)).length c6] 39 (0, 0))
   have hB7 := hB6.trans (hb7.mono hB6.size)
   have hX7 := hX6.on hb7
   have hH7 := hH.on hB7
   have hrow7 := hrow.on hB7
   have hBB7 := hBB.on hB7
   refine hKK.out _ _ (fun _ => HS5.out _ hB7) ?_
   clear hKK hHeld6
   (try simp only [Act.put, jA, jB, jC, jD, jE, jF])
   generalize (World.alloc w6 _) = w7 at hg7 hB7 hX7 hH7 hrow7 hBB7 ⊢
   refine Draws.one (i := 9) (by decide +kernel) rfl (by rfl) (fun K hKK => ?_)
   refine wpIn_append_it hrow7 _ hX7 hg7 rfl hpl _ _ rfl rfl _ rfl ?_
   intro v8 w8 hrow8 hk8 hko8
   obtain ⟨A8, c8, -, rfl, -⟩ := hrow8.items
   refine hKK.out _ _ (fun h => absurd (by decide) h) ?_
   clear hKK
   (try simp only [Act.put, jA, jB, jC, jD, jE, jF])
   have hH8 := hH7.keepT hrow8.below hk8 (by simp)
   obtain ⟨y8, z8⟩ := hH8.top1
   have hb8 := (hH8.2.1 _ (.head _)).1
   refine Draws.one (i := 10) (by decide +kernel) rfl (by rfl) (fun K hKK => ?_)
   go_simp
   refine hKK.out _ _ (fun h => absurd (by decide) h) ?_
   clear hKK
   refine Draws.done (by decide +kernel) ?_ _
   gi_wp2
   refine ⟨((KeepsFrom.of_below hB7).trans (hko8.from _)).trans ((KeepsOthers.setCell _ _ _).from _), ((Kept.of_below hB7 hH.1.size).trans (Kept.of_keepT (Below.between hrow7.below hrow8.below hk8.1) hk8)).trans (Kept.set hb8 (by decide) (by decide) (hH8.2.1 _ (.head _)).2 0 _), ⟨_, hH8.set 0 _, ?_⟩, (hBB7.keep hk8 (by decide)).keep (KeepT.set hb8 0 _) (by decide)⟩
   have h9 := hrow8.setBox hb8 (by decide) (by decide) (hH8.2.1 _ (.head _)).2 (.slice A8 (pre.length + 1 + 1) c8)
   rw [List.map_append]
   simpa [IV.it, parI, ← hkk] using h9
  case done =>
   rintro D ys W hD rfl ⟨⟨v, hH, hrow⟩, -⟩ hK
   have y0 := hH.cell (.head _) 0
   simp only [List.getElem?_toArray, List.getElem?_cons_zero] at y0
   rw [hkey.symm, ← HPL.out] at hrow
   gi_wp2
   refine ⟨by simp, .inl ⟨_, _, rfl, run_takeDeferred hK, ?_⟩⟩
   refine ⟨v, ?_, ⟨v, rfl, hrow.kept (grownBy_putObj' W D (.deferred none)) (fun r e => by cases e; exact ⟨by omega, _, hK, rfl⟩)⟩⟩
   simp [results, Tryz.f26, go_sem]
  case stop =>
   rintro D c pre W _ _ h _
   exact h.elim
end Go.Proofs.YtjlnjjmomohpaaaGreat
