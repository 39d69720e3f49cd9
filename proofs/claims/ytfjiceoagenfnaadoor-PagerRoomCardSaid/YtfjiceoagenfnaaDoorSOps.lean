/- Layer sector: copies of bytes, a write put, a new disk, limits. -/
import Derived.Test.YtfjiceoagenfnaaDoorSSml
set_option maxRecDepth 20000
namespace Go.Proofs.YtfjiceoagenfnaaDoor
open Go.RowKit Go.Lib Go.ChangeMaps Go.MapKept

theorem clone_nil (w : World) (A : Option Addr) (n c n' c' : Nat) : (binOp .eql 34 (.slice A n c) (.slice none n' c')).run Tryd.prog w = .ok (.bool A.isNone) w :=
  Lib.run_eql_slice_nil w _ _ A n c n' c' Tryd.underlying34
set_option maxHeartbeats 1000000 in
theorem Clone_any {W : World} {ad : Addr} {c : Nat} {s : List UInt8} (hB : BytesAt W (some ad) s.length s) (hm : s.length ≤ 140737488355328) :
    Calls Tryd.prog 54 #[.slice (some ad) s.length c] W fun e w' => ∃ v, e = .returned v ∧ BRow W v s w' := by
  have q := fun w n n' c' => clone_nil w (some ad) n c n' c'
  have HY := Lib.hid (fun W' (hb : Below W.heap.size W W') => bytes_on hB (grew_of hb none) (fun _ _ => by simp))
  clear hB
  have q1 : (some ad).isNone = false := rfl
  go_enter Tryd.func54, Tryd.ntmps54
  go_wp2_with (at_builtin; go_must (refine append_by (BRow.made W W (Below.refl _ _)) s (some ad) c (HY.out _ ((Below.refl _ W).alloc (Nat.le_refl _) _)) (fun e => by cases e) (by simp; omega) rfl _ _ rfl rfl rfl ?_; rintro v8 w8 HR8; rw [List.nil_append] at HR8; have HR := Lib.hid HR8; clear HR8))
  go_ret
  exact ⟨_, rfl, HR.out⟩
/-- Bytes of the call's own, as a sector. -/
theorem BRow.sv {w0 W : World} {v : Value} {s : List UInt8} (h : BRow w0 v s W) (hl : s.length = 512) : ∃ x : SV, v = x.v ∧ x.bs = s ∧ ∀ T : Nat → Prop, (∀ k, w0.heap.size ≤ k → k < W.heap.size → T k) → SvAt W T x := by
  obtain ⟨A, c, rfl, hB, hk, h1, h2⟩ := h.at
  rcases h.2.2 with ⟨e, h0⟩ | ⟨g, cap, cur, e, hg0, hg, -⟩
  · omega
  · injection e with e1 e2 e3
    refine ⟨⟨A, c, s⟩, rfl, rfl, fun T hT => ⟨hB, hl, by rw [e1]; exact Option.some_ne_none _, fun ad e => ?_⟩⟩
    obtain ⟨h3, h4⟩ := hk ad e
    refine ⟨hT _ h3 h4, cur, (0, 0), ?_⟩
    rw [e1] at e
    cases e
    exact hg
theorem SvAt.cells {W : World} {T : Nat → Prop} {x : SV} (h : SvAt W T x) : ∃ ad, x.A = some ad ∧ BytesAt W (some ad) x.bs.length x.bs := by
  obtain ⟨h1, h2, h3, -⟩ := h
  cases e : x.A with
  | none => exact absurd e h3
  | some ad => exact ⟨ad, rfl, e ▸ h1⟩
/-- Blocks of T that hold no bytes. -/
def NB (W : World) (T : Nat → Prop) : Nat → Prop := fun k => T k ∧ ¬ ByteB W k
/-- Where an operation leads: of what was there only the disk's own blocks may have turned, and none that holds bytes. -/
def DkTo (W W' : World) (T : Nat → Prop) (st : DS) (g : Nat) : Prop := Fr (NB W T) W W' ∧ ∃ T', Ext W T T' ∧ Dk W' T' st g
theorem Fr.nb {W W1 W2 : World} {T T1 : Nat → Prop} (h1 : Fr (NB W T) W W1) (he : Ext W T T1) (h2 : Fr (NB W1 T1) W1 W2) : Fr (NB W T) W W2 :=
  h1.trans h2 (fun k hk e => ⟨(he.2 k e.1).elim id (fun e => by omega), fun hb => e.2 (by
    obtain ⟨cs, fr, hh⟩ := hb
    exact ⟨cs, fr, (h1.2 k hk (fun e2 => e2.2 ⟨cs, fr, hh⟩)).trans hh⟩)⟩)
theorem DkTo.refl {W : World} {T : Nat → Prop} {st : DS} {g : Nat} (h : Dk W T st g) : DkTo W W T st g := ⟨Fr.refl _ _, T, Ext.refl _ _, h⟩
theorem DkTo.trans {W W1 W2 : World} {T T1 : Nat → Prop} {st : DS} {g : Nat} (h1 : Fr (NB W T) W W1) (he : Ext W T T1) (h2 : DkTo W1 W2 T1 st g) : DkTo W W2 T st g := by
  obtain ⟨f, T2, e2, hd⟩ := h2
  exact ⟨h1.nb he f, T2, he.trans e2 h1.1.size, hd⟩
theorem Dk.nb {W : World} {T : Nat → Prop} {st : DS} {g : Nat} (h : Dk W T st g) : ∀ k, k = g → NB W T k := fun k e => by
  obtain ⟨ms, ml, v, S, L, U, h⟩ := h
  subst e
  exact ⟨h.here, no_byte h.blk (by decide)⟩
section
variable {ops : Array Oper} {o : Oper} {a : Act} {KK : Act → World → Prop} {Q : Exit → Act → World → Prop} {E : Prop}
/-- A store into a map of sectors, in a region that draws its order. -/
theorem step_putS {W : World} {b : Nat} {l : List (Int × SV)} (hgd : o.guard = none) (m x v : Operand) (hop : o.op = Op.mapUpdate 84 m x v)
    (hm : a.eval m = .map (some b)) (h : MapIs W b iv SV.v In64 l) {k : Int} (hk : In64 k) {y : SV} (hx : a.eval x = iv k) (hv : a.eval v = y.v)
    (hK : ∀ W' l', MapIs W' b iv SV.v In64 l' → (∀ p, p ∈ l' ↔ p = (k, y) ∨ (p ∈ l ∧ p.1 ≠ k)) → W.grownBy W' (some b) → W'.heap.size = W.heap.size → KK (a.put o.dst undef) W') :
    if Region.wanted o (yielded ops a.tmps) = true then Oper.wp Tryd.prog o a W KK Q else E := by
  have hw : Region.wanted o (yielded ops a.tmps) = true := by simp [Region.wanted, hgd]
  rw [if_pos hw]
  obtain ⟨W', l', hrun, r1, r2, r3, r4, r5⟩ := h.putAny keyI Tryd.underlying84 hk y
  unfold Oper.wp
  simp [execOp, hop, hm, hx, hv, hrun, Result.andThen]
  exact hK W' l' r1 r2 r4 r5
/-- A write more in a list of the holder's own. -/
theorem step_appW {W : World} {T : Nat → Prop} {v : Value} {l : List WV} (HL : LogAt W T v l) (hT : Ter W T) (x : WV) (hx : SvAt W T x.2) {g : Nat} {cs : Array Value} {t' : TypeId} (hg : W.heap[g]? = some (.cells cs t' (0, 0))) (hcs : cs.toList = encW x) (hn : l.length + 1 ≤ 1000000)
    (hgd : o.guard = none) (s y : Operand)
    (ho : o.op = .call { callee := .builtin .append, args := #[s, y], argTypes := #[85, 85] })
    (hs : a.eval s = v) (c : Nat) (hy : a.eval y = .slice (some ⟨g, 0, none⟩) 1 c)
    (h : ∀ v' w', (∀ T' : Nat → Prop, (∀ k, T k → T' k) → (W.heap.size < w'.heap.size → T' W.heap.size) → LogAt w' T' v' (l ++ [x])) → W.grownBy w' v.ownBlock → (∀ j, v'.ownBlock = some j → v.ownBlock = some j ∨ j = W.heap.size) → KK (a.put o.dst v') w') :
    if Region.wanted o (yielded ops a.tmps) = true then Oper.wp Tryd.prog o a W KK Q else E := by
  have hw : Region.wanted o (yielded ops a.tmps) = true := by simp [Region.wanted, hgd]
  rw [if_pos hw]
  obtain ⟨i0, z, hi, hz0, hz1, hz2, hz3⟩ := kindW.info
  obtain ⟨v', w', hr, hown, hgrow, -, hat⟩ := run_append_own_at (P := Tryd.prog) W 0 85 o.type 100 i0 z 2 32 Tryd.underlying85 hi hz0 hz1 hz2 hz3 (by decide) v l.length (l.flatMap encW) HL.row ⟨g, 0, none⟩ 1 c (encW x) (by rw [kindW.len]) (fun j u hu => by rw [add_off, blk_cell hg, ← hu, ← hcs, Array.getElem?_toList]) (kindW.one x) (by unfold maxLen; omega) (by omega) (Nat.zero_le _)
  have hf : Fr (fun k => v.ownBlock = some k) W w' := Fr.grew hgrow (fun k e => e)
  have hsv : ∀ T' : Nat → Prop, (∀ k, T k → T' k) → ∀ y : SV, SvAt W T y → SvAt w' T' y := fun T' hT' y hy => hy.on hT' (fun k h1 h2 => hf.2 k (hT k h1) (fun e => HL.noByte e h2))
  have h' := h v' w' (fun T' hT' hnew => { row := by
                                              rw [List.length_append, List.flatMap_append, List.flatMap_cons, List.flatMap_nil, List.append_nil]
                                              exact hown,
                                           ter := fun k e => by
                                              rcases hat with h1 | h1
                                              · exact hT' k (HL.ter k (h1.symm.trans e))
                                              · obtain rfl := Option.some.inj (h1.symm.trans e)
                                                exact hnew (hown.lt _ h1).2,
                                           sv := fun y hy => by
                                              rcases List.mem_append.1 hy with hy | hy
                                              · exact hsv T' hT' _ (HL.sv y hy)
                                              · rw [List.mem_singleton.1 hy]; exact hsv T' hT' _ hx }) hgrow (fun j e => hat.imp (fun h1 => h1.symm.trans e) (fun h1 => (Option.some.inj (h1.symm.trans e)).symm))
  unfold Oper.wp
  simp [execOp, ho, resolve, invoke, builtin, hs, hy, hr, Result.andThen]
  exact h'
end
theorem DS.push_ok {st : DS} (h : st.ok) {w : Wr} (h1 : w.1 < st.sz) (h2 : w.2.length = 512) : ({ st with log := st.log ++ [w] } : DS).ok := by
  obtain ⟨a, b, c, d⟩ := h
  refine ⟨by show st.n ≤ (st.log ++ [w]).length; rw [List.length_append]; omega, fun x hx => ?_, c, d⟩
  rcases List.mem_append.1 hx with hx | hx
  · exact b x hx
  · rw [List.mem_singleton.1 hx]; exact ⟨h1, h2⟩
theorem DS.push_un {st : DS} (h : st.ok) (w : Wr) : ({ st with log := st.log ++ [w] } : DS).un = st.un ++ [w] := List.drop_append_of_le_length h.1
theorem DS.push_sure {st : DS} (h : st.ok) (w : Wr) : ({ st with log := st.log ++ [w] } : DS).sure = st.sure := List.take_append_of_le_length h.1
/-- What a put leaves: the map of what was written last, the list, the disk's own block. -/
theorem DAt.push {W W2 W3 W4 : World} {T : Nat → Prop} {st : DS} {g ms ml : Nat} {v v' : Value} {S L L2 : List (Int × SV)} {U : List WV} (h : DAt W T st g ms ml v S L U) {x : WV} (hx : SvAt W T x.2) (hlt : x.1 < st.sz)
    (h2 : Fr (· = ml) W W2) (hm2 : MapIs W2 ml iv SV.v In64 L2) (hp : ∀ p, p ∈ L2 ↔ p = ((x.1 : Int), x.2) ∨ (p ∈ L ∧ p.1 ≠ (x.1 : Int))) (h3 : Fr (fun k => v.ownBlock = some k) W2 W3)
    (hrow : ∀ T' : Nat → Prop, (∀ k, T k → T' k) → (∀ k, W.heap.size ≤ k → k < W3.heap.size → T' k) → LogAt W3 T' v' (U ++ [x])) (h4 : W4 = W3.setCell ⟨g, 5, none⟩ v') : DkTo W W4 T { st with log := st.log ++ [x.w] } g := by
  have hz4 : W4.heap.size = W3.heap.size := by rw [h4]; simp [World.setCell]
  have f4 : Fr (· = g) W3 W4 := by rw [h4]; exact Fr.set rfl
  have f23 : Fr (fun k => k = ml ∨ v.ownBlock = some k) W W3 := (h2.mono (fun k _ e => .inl e)).trans h3 (fun k _ e => .inr e)
  have f24 : Fr (fun k => k = g ∨ k = ml ∨ v.ownBlock = some k) W W4 := (f23.mono (fun k _ e => .inr e)).trans f4 (fun k _ e => .inl e)
  have gne : ¬ (g = ml ∨ v.ownBlock = some g) := fun e => by
    rcases e with e | e
    · exact map_cells h.ml.map h.blk e.symm
    · exact h.row.ne e h.blk (by decide) rfl
  have g3 := (f23.2 g (blk_lt h.blk) gne).trans h.blk
  have hnb : ∀ k, (k = g ∨ k = ml ∨ v.ownBlock = some k) → ¬ ByteB W k := fun k e => by
    rcases e with rfl | rfl | e
    · exact no_byte h.blk (by decide)
    · exact map_noByte h.ml.map
    · exact h.row.noByte e
  have s4 : ∀ T' : Nat → Prop, (∀ k, T k → T' k) → ∀ y : SV, SvAt W T y → SvAt W4 T' y := fun T' hT' y hy => hy.on hT' (fun k h1 h2 => f24.2 k (h.ter k h1) (fun e => hnb k e h2))
  have ml3 : W4.heap[ml]? = W2.heap[ml]? := (f4.2 ml (Nat.lt_of_lt_of_le h.ml.map.lt f23.1.size) (map_cells h.ml.map h.blk)).trans (h3.2 ml hm2.lt (fun e => h.row.neMap e h.ml.map rfl))
  have hb4 : W4.heap[g]? = some (.cells #[.bool st.out, .int .i64 (st.left : Nat), .int .i64 (st.sz : Nat), .map (some ms), .map (some ml), v'] 87 (0, 0)) := by
    rw [h4]; exact blk_set g3 5 v'
  let T' : Nat → Prop := fun k => T k ∨ (W.heap.size ≤ k ∧ k < W4.heap.size)
  have hT' : ∀ k, T k → T' k := fun k hk => .inl hk
  have hR := hrow T' hT' (fun k h1 h2 => .inr ⟨h1, by omega⟩)
  refine ⟨f24.mono (fun k _ e => ⟨?_, hnb k e⟩), T', ⟨hT', fun k e => e.imp id (fun e => e.1)⟩, ms, ml, v', S, L2, U ++ [x], ?_⟩
  · rcases e with rfl | rfl | e
    · exact h.here
    · exact h.ml.ter
    · exact h.row.ter k e
  exact { ok := DS.push_ok h.ok hlt hx.2.1, ter := fun k e => e.elim (fun e => Nat.lt_of_lt_of_le (h.ter k e) f24.1.size) (fun e => e.2), here := hT' g h.here, blk := hb4, ne := h.ne,
          ms := { map := h.ms.map.at (f24.2 ms h.ms.map.lt (fun e => by
                    rcases e with e | e | e
                    · exact map_cells h.ms.map h.blk e
                    · exact h.ne e
                    · exact h.row.neMap e h.ms.map rfl)), ter := hT' _ h.ms.ter, sv := fun p hp => s4 T' hT' _ (h.ms.sv p hp) },
          ml := { map := hm2.at ml3, ter := hT' _ h.ml.ter, sv := fun p hp2 => by
                    rcases (hp p).1 hp2 with rfl | ⟨hp2, -⟩
                    · exact s4 T' hT' _ hx
                    · exact s4 T' hT' _ (h.ml.sv p hp2) },
          row := { row := ((hR.fr (T := T') (fun k e => by rw [← hz4]; exact e.elim (fun e => Nat.lt_of_lt_of_le (h.ter k e) f24.1.size) (fun e => e.2)) f4 (fun k e => by rw [e]; exact no_byte g3 (by decide)) (fun k e e2 => hR.ne e g3 (by decide) e2))).row, ter := hR.ter, sv := ((hR.fr (T := T') (fun k e => by rw [← hz4]; exact e.elim (fun e => Nat.lt_of_lt_of_le (h.ter k e) f24.1.size) (fun e => e.2)) f4 (fun k e => by rw [e]; exact no_byte g3 (by decide)) (fun k e e2 => hR.ne e g3 (by decide) e2))).sv },
          un := by rw [List.map_append, h.un, DS.push_un h.ok]; rfl,
          sure := by rw [DS.push_sure h.ok]; exact h.sure,
          late := by rw [DS.push_un h.ok]; exact h.late.put hp (fun j => lastW_push _ _ _) }

set_option maxHeartbeats 2000000 in
theorem put_any {W : World} {T : Nat → Prop} {st : DS} {g : Nat} (h : Dk W T st g) (x : WV) (hx : SvAt W T x.2) (hlt : x.1 < st.sz) (hn : st.log.length ≤ 100000) :
    Calls Tryd.prog 53 #[.pointer (some ⟨g, 0, none⟩), .agg #[.int .i64 (x.1 : Nat), x.2.v]] W fun e w' => e = .returned (.tuple #[]) ∧ DkTo W w' T { st with log := st.log ++ [x.w] } g := by
  obtain ⟨ms, ml, v, S, L, U, h⟩ := h
  have hsz := h.ok.2.2.2
  go_enter Tryd.func53, Tryd.ntmps53
  go_upto_region 1 with (fail)
  have hb := (Below.alloc (Below.refl W.heap.size W) (Nat.le_refl _) (Obj.cells #[.int .i64 (x.1 : Nat), x.2.v] 100 (0, 0))).drew
  have hb0 : (W.alloc (Obj.cells #[.int .i64 (x.1 : Nat), x.2.v] 100 (0, 0))).drew.heap[W.heap.size]? = _ := heap_alloc_new W (Obj.cells #[.int .i64 (x.1 : Nat), x.2.v] 100 (0, 0))
  obtain ⟨b0, hb00⟩ : ∃ b, W.heap.size = b := ⟨_, rfl⟩
  rw [hb00] at hb0 ⊢
  obtain ⟨u, hu⟩ : ∃ u, (W.alloc (Obj.cells #[.int .i64 (x.1 : Nat), x.2.v] 100 (0, 0))).drew = u := ⟨_, rfl⟩
  rw [hu] at hb hb0
  have hd := Lib.hid (h.on (W' := u) (fun _ h => h) (h.ter.on hb.size) (fun k hk => hb.block k (h.ter k hk)))
  have hx1 := Lib.hid (hx.on (W' := u) (fun _ h => h) (fun k hk _ => hb.block k (h.ter k hk)))
  have HB := Lib.hid hb
  have HBN := Lib.hid (show ¬ T b0 from fun e => by have := h.ter _ e; omega)
  have HLT := Lib.hid hlt
  have HI := Lib.hid (show In64 (x.1 : Int) by unfold In64; omega)
  have HN := Lib.hid (show U.length + 1 ≤ 1000000 by
    have h1 := congrArg List.length h.un
    rw [List.length_map] at h1
    unfold DS.un at h1
    rw [List.length_drop] at h1
    omega)
  have HNE := Lib.hid (show g ≠ ml ∧ b0 ≠ ml from ⟨fun e => map_cells h.ml.map h.blk e.symm, fun e => by have := h.ml.map.lt; omega⟩)
  have c4 := hd.out.c4
  have e0 : u.cell? ⟨b0, 0, none⟩ = some (.int .i64 (x.1 : Nat)) := blk_cell hb0 0
  have e1 : u.cell? ⟨b0, 1, none⟩ = some x.2.v := blk_cell hb0 1
  have H0 := Lib.hid hb0
  clear h hx hlt hsz hn hb hb0
  refine wp_region_held_drew (S := fun W => W.cell? ⟨g, 4, none⟩ = some (.map (some ml)) ∧ W.cell? ⟨b0, 0, none⟩ = some (.int .i64 (x.1 : Nat)) ∧ W.cell? ⟨b0, 1, none⟩ = some x.2.v) (by kernel_rfl) ?_ (fun hHeld => ?_)
  · (try dsimp only)
    rw [hu]
    exact ⟨c4, e0, e1⟩
  rw [hu] at hHeld ⊢
  clear hu c4 e0 e1
  refine takeSome (i := 0) (v := ?_) (by decide +kernel) rfl (by rfl) (by decide +kernel) (by decide +kernel) (fun _ _ _ h => h) (by assumption) ?_ ?_
  rotate_left
  focus (intro w0 hSw; (try dsimp only at hSw); go_simp; (try (with_reducible rfl)); done)
  (try simp only [Act.put, List.getElem_toArray, List.getElem_cons_zero, List.setIfInBounds_toArray, List.set_cons_zero, List.set_cons_succ])
  refine takeSome (i := 1) (v := ?_) (by decide +kernel) rfl (by rfl) (by decide +kernel) (by decide +kernel) (fun _ _ _ h => h) (by assumption) ?_ ?_
  rotate_left
  focus (intro w0 hSw; (try dsimp only at hSw); go_simp; (try (with_reducible rfl)); done)
  (try simp only [Act.put, List.getElem_toArray, List.getElem_cons_zero, List.getElem_cons_succ, List.setIfInBounds_toArray, List.set_cons_zero, List.set_cons_succ])
  refine takeSome (i := 2) (v := ?_) (by decide +kernel) rfl (by rfl) (by decide +kernel) (by decide +kernel) (fun _ _ _ h => h) (by assumption) ?_ ?_
  rotate_left
  focus (intro w0 hSw; (try dsimp only at hSw); go_simp; (try (with_reducible rfl)); done)
  (try simp only [Act.put, List.getElem_toArray, List.getElem_cons_zero, List.getElem_cons_succ, List.setIfInBounds_toArray, List.set_cons_zero, List.set_cons_succ])
  refine takeSome (i := 3) (v := ?_) (by decide +kernel) rfl (by rfl) (by decide +kernel) (by decide +kernel) (fun _ _ _ h => h) (by assumption) ?_ ?_
  rotate_left
  focus (intro w0 hSw; (try dsimp only at hSw); go_simp; (try (with_reducible rfl)); done)
  (try simp only [Act.put, List.getElem_toArray, List.getElem_cons_zero, List.getElem_cons_succ, List.setIfInBounds_toArray, List.set_cons_zero, List.set_cons_succ])
  refine takeSome (i := 4) (v := ?_) (by decide +kernel) rfl (by rfl) (by decide +kernel) (by decide +kernel) (fun _ _ _ h => h) (by assumption) ?_ ?_
  rotate_left
  focus (intro w0 hSw; (try dsimp only at hSw); go_simp; (try (with_reducible rfl)); done)
  (try simp only [Act.put, List.getElem_toArray, List.getElem_cons_zero, List.getElem_cons_succ, List.setIfInBounds_toArray, List.set_cons_zero, List.set_cons_succ])
  refine takeSome (i := 5) (v := ?_) (by decide +kernel) rfl (by rfl) (by decide +kernel) (by decide +kernel) (fun _ _ _ h => h) (by assumption) ?_ ?_
  rotate_left
  focus (intro w0 hSw; (try dsimp only at hSw); go_simp; (try (with_reducible rfl)); done)
  (try simp only [Act.put, List.getElem_toArray, List.getElem_cons_zero, List.getElem_cons_succ, List.setIfInBounds_toArray, List.set_cons_zero, List.set_cons_succ])
  refine takeSome (i := 6) (v := ?_) (by decide +kernel) rfl (by rfl) (by decide +kernel) (by decide +kernel) (fun _ _ _ h => h) (by assumption) ?_ ?_
  rotate_left
  focus (intro w0 hSw; (try dsimp only at hSw); go_simp; (try (with_reducible rfl)); done)
  (try simp only [Act.put, List.getElem_toArray, List.getElem_cons_zero, List.getElem_cons_succ, List.setIfInBounds_toArray, List.set_cons_zero, List.set_cons_succ])
  refine takeSome (i := 7) (v := ?_) (by decide +kernel) rfl (by rfl) (by decide +kernel) (by decide +kernel) (fun _ _ _ h => h) (by assumption) ?_ ?_
  rotate_left
  focus (intro w0 hSw; (try dsimp only at hSw); go_simp; (try (with_reducible rfl)); done)
  (try simp only [Act.put, List.getElem_toArray, List.getElem_cons_zero, List.getElem_cons_succ, List.setIfInBounds_toArray, List.set_cons_zero, List.set_cons_succ])
  refine wpAnyH_ready (rs := [8]) (by decide +kernel) (by simp) ?_
  refine AllReadyH.cons rfl (fun K hK => ?_) AllReadyH.nil
  refine step_putS (k := (x.1 : Int)) (y := x.2) (by rfl) _ _ _ rfl (by rfl) hd.out.ml.map HI.out (by rfl) (by rfl) ?_; intro W2 L2 hm2 hp2 hg2 hs2; have hf2 : Fr (· = ml) u W2 := Fr.grew hg2 (fun k e => (Option.some.inj e).symm)
  refine hK.out _ _ ?_ (fun hHeld => ?_)
  focus ((try dsimp only); exact ⟨(hf2.cell (blk_lt hd.out.blk) HNE.out.1).trans hd.out.c4, (hf2.cell (blk_lt H0.out) HNE.out.2).trans (blk_cell H0.out 0), (hf2.cell (blk_lt H0.out) HNE.out.2).trans (blk_cell H0.out 1)⟩; done)
  clear hK K
  (try simp only [Act.put, List.getElem_toArray, List.getElem_cons_zero, List.getElem_cons_succ])
  refine wpAnyH_done (by decide +kernel) ?_ _
  clear hHeld
  go_upto_region 2 with (fail)
  obtain ⟨u2, hu2⟩ : ∃ u, W2.drew = u := ⟨_, rfl⟩
  have hg0 : W2.drew.heap[g]? = _ := (hf2.2 g (blk_lt hd.out.blk) HNE.out.1).trans hd.out.blk
  have hb2 : W2.drew.heap[b0]? = _ := (hf2.2 b0 (blk_lt H0.out) HNE.out.2).trans H0.out
  have hf2' : Fr (· = ml) u W2.drew := ⟨hf2.1.drew, hf2.2⟩
  have hm2' : MapIs W2.drew ml iv SV.v In64 L2 := hm2.drew
  rw [hu2] at hg0 hb2 hf2' hm2'
  have hrow2 := hd.out.row.fr hd.out.ter hf2' (fun k e => by subst e; exact map_noByte hd.out.ml.map) (fun k e e2 => hd.out.row.neMap e hd.out.ml.map e2)
  have hx2 := hx1.out.on (W' := u2) (fun _ h => h) (fun k h1 h2 => hf2'.2 k (hd.out.ter k h1) (fun e => by subst e; exact map_noByte hd.out.ml.map h2))
  have hter2 : Ter u2 T := hd.out.ter.on hf2'.1.size
  have c5 : u2.cell? ⟨g, 5, none⟩ = some v := blk_cell hg0 5
  have e0 : u2.cell? ⟨b0, 0, none⟩ = some (.int .i64 (x.1 : Nat)) := blk_cell hb2 0
  have e1 : u2.cell? ⟨b0, 1, none⟩ = some x.2.v := blk_cell hb2 1
  have ha := Below.alloc (Below.refl u2.heap.size u2) (Nat.le_refl _) (Obj.cells #[.int .i64 (x.1 : Nat), x.2.v] 100 (0, 0))
  have hal := heap_alloc_new u2 (Obj.cells #[.int .i64 (x.1 : Nat), x.2.v] 100 (0, 0))
  obtain ⟨u4, hu4⟩ : ∃ u, u2.alloc (Obj.cells #[.int .i64 (x.1 : Nat), x.2.v] 100 (0, 0)) = u := ⟨_, rfl⟩
  rw [hu4] at ha hal
  have HF := Lib.hid hf2'
  have HM := Lib.hid hm2'
  have HP := Lib.hid hp2
  have HA := Lib.hid ha
  have HB4 := Lib.hid hal
  have HT4 := Lib.hid (hter2.on ha.size)
  have HR4 := Lib.hid (hrow2.on (W' := u4) (fun _ h => h) (fun k hk => ha.block k (hter2 k hk)))
  have HX4 := Lib.hid (hx2.on (W' := u4) (fun _ h => h) (fun k hk _ => ha.block k (hter2 k hk)))
  have H4 := Lib.hid ((ha.block b0 (blk_lt hb2)).trans hb2)
  have HG4 := Lib.hid ((ha.block g (blk_lt hg0)).trans hg0)
  have HRB := Lib.hid (show ¬ v.ownBlock = some b0 from fun e => HBN.out (hd.out.row.ter b0 e))
  have c54 : u4.cell? ⟨g, 5, none⟩ = some v := blk_cell HG4.out 5
  have HS4 := Lib.hid (show u4.cell? ⟨b0, 0, none⟩ = some (.int .i64 (x.1 : Nat)) ∧ u4.cell? ⟨b0, 1, none⟩ = some x.2.v from ⟨blk_cell H4.out 0, blk_cell H4.out 1⟩)
  have HS2 := Lib.hid (show u2.cell? ⟨b0, 0, none⟩ = some (.int .i64 (x.1 : Nat)) ∧ u2.cell? ⟨b0, 1, none⟩ = some x.2.v from ⟨e0, e1⟩)
  clear hm2 hp2 hg2 hs2 hf2 hg0 hb2 hf2' hm2' hrow2 hx2 hter2 ha hal e0 e1
  refine wp_region_held_drew (S := fun W => W.cell? ⟨b0, 0, none⟩ = some (.int .i64 (x.1 : Nat)) ∧ W.cell? ⟨b0, 1, none⟩ = some x.2.v) (by kernel_rfl) ?_ (fun hHeld => ?_)
  · (try dsimp only)
    rw [hu2]
    exact HS2.out
  rw [hu2] at hHeld ⊢
  clear hu2
  refine takeSome (i := 0) (v := ?_) (by decide +kernel) rfl (by rfl) (by decide +kernel) (by decide +kernel) (fun _ _ _ h => h) (by assumption) ?_ ?_
  rotate_left
  focus (intro w0 hSw; (try dsimp only at hSw); go_simp; (try (with_reducible rfl)); done)
  (try simp only [Act.put, List.getElem_toArray, List.getElem_cons_zero, List.setIfInBounds_toArray, List.set_cons_zero, List.set_cons_succ])
  refine takeSome (i := 1) (v := ?_) (by decide +kernel) rfl (by rfl) (by decide +kernel) (by decide +kernel) (fun _ _ _ h => h) (by assumption) ?_ ?_
  rotate_left
  focus (intro w0 hSw; (try dsimp only at hSw); go_simp; (try (with_reducible rfl)); done)
  (try simp only [Act.put, List.getElem_toArray, List.getElem_cons_zero, List.getElem_cons_succ, List.setIfInBounds_toArray, List.set_cons_zero, List.set_cons_succ])
  refine takeSome (i := 2) (v := ?_) (by decide +kernel) rfl (by rfl) (by decide +kernel) (by decide +kernel) (fun _ _ _ h => h) (by assumption) ?_ ?_
  rotate_left
  focus (intro w0 hSw; (try dsimp only at hSw); go_simp; (try (with_reducible rfl)); done)
  (try simp only [Act.put, List.getElem_toArray, List.getElem_cons_zero, List.getElem_cons_succ, List.setIfInBounds_toArray, List.set_cons_zero, List.set_cons_succ])
  refine takeSome (i := 3) (v := ?_) (by decide +kernel) rfl (by rfl) (by decide +kernel) (by decide +kernel) (fun _ _ _ h => h) (by assumption) ?_ ?_
  rotate_left
  focus (intro w0 hSw; (try dsimp only at hSw); go_simp; (try (with_reducible rfl)); done)
  (try simp only [Act.put, List.getElem_toArray, List.getElem_cons_zero, List.getElem_cons_succ, List.setIfInBounds_toArray, List.set_cons_zero, List.set_cons_succ])
  refine takeSome (i := 5) (v := ?_) (by decide +kernel) rfl (by rfl) (by decide +kernel) (by decide +kernel) (fun _ _ _ h => h) (by assumption) ?_ ?_
  rotate_left
  focus (intro w0 hSw; (try dsimp only at hSw); go_simp; (try (with_reducible rfl)); done)
  (try simp only [Act.put, List.getElem_toArray, List.getElem_cons_zero, List.getElem_cons_succ, List.setIfInBounds_toArray, List.set_cons_zero, List.set_cons_succ])
  refine wpAnyH_ready (rs := [4, 6]) (by decide +kernel) (by simp) ?_
  refine AllReadyH.cons rfl (fun K hK => ?_) (AllReadyH.cons rfl (fun K hK => ?_) AllReadyH.nil)
  · (try simp only [List.getElem_toArray, List.getElem_cons_zero, List.getElem_cons_succ])
    go_simp
    refine hK.out _ _ hHeld (fun hHeld => ?_)
    clear hK K
    (try simp only [Act.put, List.getElem_toArray, List.getElem_cons_zero, List.getElem_cons_succ, List.setIfInBounds_toArray, List.set_cons_zero, List.set_cons_succ])
    refine wpAnyH_ready (rs := [6]) (by decide +kernel) (by simp) ?_
    refine AllReadyH.cons rfl (fun K hK => ?_) AllReadyH.nil
    (try simp only [List.getElem_toArray, List.getElem_cons_zero, List.getElem_cons_succ])
    go_simp
    refine hK.out _ _ ?_ (fun hHeld => ?_)
    focus ((try dsimp only); exact HS4.out; done)
    clear hK K
    (try simp only [Act.put, List.getElem_toArray, List.getElem_cons_zero, List.getElem_cons_succ, List.setIfInBounds_toArray, List.set_cons_zero, List.set_cons_succ])
    refine wpAnyH_ready (rs := [7]) (by decide +kernel) (by simp) ?_
    refine AllReadyH.cons rfl (fun K hK => ?_) AllReadyH.nil
    refine step_appW HR4.out HT4.out x HX4.out HB4.out rfl HN.out (by rfl) _ _ (by rfl) (by rfl) 1 (by rfl) ?_; intro v5 w5 hr5 hg5 _; have hf5 : Fr (fun k => v.ownBlock = some k) u4 w5 := Fr.grew hg5 (fun k e => e)
    refine hK.out _ _ ?_ (fun hHeld => ?_)
    focus ((try dsimp only); exact ⟨(hf5.cell (blk_lt H4.out) HRB.out).trans HS4.out.1, (hf5.cell (blk_lt H4.out) HRB.out).trans HS4.out.2⟩; done)
    clear hK K
    (try simp only [Act.put, List.getElem_toArray, List.getElem_cons_zero, List.getElem_cons_succ, List.setIfInBounds_toArray, List.set_cons_zero, List.set_cons_succ])
    refine takeSome (i := 8) (v := ?_) (by decide +kernel) rfl (by rfl) (by decide +kernel) (by decide +kernel) (fun _ _ _ h => h) (by assumption) ?_ ?_
    rotate_left
    focus (intro w0 hSw; (try dsimp only at hSw); go_simp; (try (with_reducible rfl)); done)
    (try simp only [Act.put, List.getElem_toArray, List.getElem_cons_zero, List.getElem_cons_succ, List.setIfInBounds_toArray, List.set_cons_zero, List.set_cons_succ])
    refine takeSome (i := 9) (v := ?_) (by decide +kernel) rfl (by rfl) (by decide +kernel) (by decide +kernel) (fun _ _ _ h => h) (by assumption) ?_ ?_
    rotate_left
    focus (intro w0 hSw; (try dsimp only at hSw); go_simp; (try (with_reducible rfl)); done)
    (try simp only [Act.put, List.getElem_toArray, List.getElem_cons_zero, List.getElem_cons_succ, List.setIfInBounds_toArray, List.set_cons_zero, List.set_cons_succ])
    obtain ⟨A5, C5, e5⟩ := (hr5 (fun _ => True) (fun _ _ => trivial) (fun _ => trivial)).shape
    obtain ⟨q5, hq5⟩ : ∃ q, Hid ((U ++ [x]).length = q) := ⟨_, Lib.hid rfl⟩
    rw [hq5.out] at e5
    subst e5
    have hg50 := (hf5.2 g (blk_lt HG4.out) (fun e => hd.out.row.ne e hd.out.blk (by decide) rfl)).trans HG4.out
    have k5 : w5.cell? ⟨g, 5, none⟩ = some v := blk_cell hg50 5
    have f5 := blk_frozen hg50 5
    have b5 := (hf5.2 b0 (blk_lt H4.out) HRB.out).trans H4.out
    have hb5 : (w5.setCell ⟨g, 5, none⟩ (.slice A5 q5 C5)).heap[b0]? = _ := (Below.heap_setCell w5 ⟨g, 5, none⟩ (.slice A5 q5 C5) b0 (fun e => HBN.out (e ▸ hd.out.here))).trans b5
    have HQ5 := Lib.hid (show (w5.setCell ⟨g, 5, none⟩ (.slice A5 q5 C5)).cell? ⟨b0, 0, none⟩ = some (.int .i64 (x.1 : Nat)) ∧ (w5.setCell ⟨g, 5, none⟩ (.slice A5 q5 C5)).cell? ⟨b0, 1, none⟩ = some x.2.v from ⟨blk_cell hb5 0, blk_cell hb5 1⟩)
    have HF5 := Lib.hid hf5
    have HR5 := Lib.hid hr5
    clear hg50 b5 hb5 hf5 hr5 hg5
    refine wpAnyH_ready (rs := [10]) (by decide +kernel) (by simp) ?_
    refine AllReadyH.cons rfl (fun K hK => ?_) AllReadyH.nil
    (try simp only [List.getElem_toArray, List.getElem_cons_zero, List.getElem_cons_succ])
    go_simp
    refine hK.out _ _ ?_ (fun hHeld => ?_)
    focus ((try dsimp only); exact HQ5.out; done)
    clear hK K
    (try simp only [Act.put, List.getElem_toArray, List.getElem_cons_zero, List.getElem_cons_succ, List.setIfInBounds_toArray, List.set_cons_zero, List.set_cons_succ])
    refine wpAnyH_done (by decide +kernel) ?_ _
    go_wp2_with fail
    go_end0
    refine ⟨rfl, ?_⟩
    have hA : Fr (fun k => v.ownBlock = some k) u2 u4 := Fr.of HA.out
    have hfin := hd.out.push hx1.out HLT.out HF.out HM.out HP.out (hA.trans HF5.out (fun _ _ e => e)) (fun T' h1 h2 => HR5.out T' h1 (fun hlt => h2 _ (by have := HF.out.1.size; have := HA.out.size; omega) hlt)) (W4 := w5.setCell ⟨g, 5, none⟩ (.slice A5 q5 C5)) rfl
    exact DkTo.trans (Fr.of HB.out) (Ext.refl _ _) hfin
  · (try simp only [List.getElem_toArray, List.getElem_cons_zero, List.getElem_cons_succ])
    go_simp
    refine hK.out _ _ HS4.out (fun hHeld => ?_)
    clear hK K
    (try simp only [Act.put, List.getElem_toArray, List.getElem_cons_zero, List.getElem_cons_succ, List.setIfInBounds_toArray, List.set_cons_zero, List.set_cons_succ])
    refine wpAnyH_ready (rs := [4]) (by decide +kernel) (by simp) ?_
    refine AllReadyH.cons rfl (fun K hK => ?_) AllReadyH.nil
    (try simp only [List.getElem_toArray, List.getElem_cons_zero, List.getElem_cons_succ])
    go_simp
    refine hK.out _ _ ?_ (fun hHeld => ?_)
    focus ((try dsimp only); exact HS4.out; done)
    clear hK K
    (try simp only [Act.put, List.getElem_toArray, List.getElem_cons_zero, List.getElem_cons_succ, List.setIfInBounds_toArray, List.set_cons_zero, List.set_cons_succ])
    refine wpAnyH_ready (rs := [7]) (by decide +kernel) (by simp) ?_
    refine AllReadyH.cons rfl (fun K hK => ?_) AllReadyH.nil
    refine step_appW HR4.out HT4.out x HX4.out HB4.out rfl HN.out (by rfl) _ _ (by rfl) (by rfl) 1 (by rfl) ?_; intro v5 w5 hr5 hg5 _; have hf5 : Fr (fun k => v.ownBlock = some k) u4 w5 := Fr.grew hg5 (fun k e => e)
    refine hK.out _ _ ?_ (fun hHeld => ?_)
    focus ((try dsimp only); exact ⟨(hf5.cell (blk_lt H4.out) HRB.out).trans HS4.out.1, (hf5.cell (blk_lt H4.out) HRB.out).trans HS4.out.2⟩; done)
    clear hK K
    (try simp only [Act.put, List.getElem_toArray, List.getElem_cons_zero, List.getElem_cons_succ, List.setIfInBounds_toArray, List.set_cons_zero, List.set_cons_succ])
    refine takeSome (i := 8) (v := ?_) (by decide +kernel) rfl (by rfl) (by decide +kernel) (by decide +kernel) (fun _ _ _ h => h) (by assumption) ?_ ?_
    rotate_left
    focus (intro w0 hSw; (try dsimp only at hSw); go_simp; (try (with_reducible rfl)); done)
    (try simp only [Act.put, List.getElem_toArray, List.getElem_cons_zero, List.getElem_cons_succ, List.setIfInBounds_toArray, List.set_cons_zero, List.set_cons_succ])
    refine takeSome (i := 9) (v := ?_) (by decide +kernel) rfl (by rfl) (by decide +kernel) (by decide +kernel) (fun _ _ _ h => h) (by assumption) ?_ ?_
    rotate_left
    focus (intro w0 hSw; (try dsimp only at hSw); go_simp; (try (with_reducible rfl)); done)
    (try simp only [Act.put, List.getElem_toArray, List.getElem_cons_zero, List.getElem_cons_succ, List.setIfInBounds_toArray, List.set_cons_zero, List.set_cons_succ])
    obtain ⟨A5, C5, e5⟩ := (hr5 (fun _ => True) (fun _ _ => trivial) (fun _ => trivial)).shape
    obtain ⟨q5, hq5⟩ : ∃ q, Hid ((U ++ [x]).length = q) := ⟨_, Lib.hid rfl⟩
    rw [hq5.out] at e5
    subst e5
    have hg50 := (hf5.2 g (blk_lt HG4.out) (fun e => hd.out.row.ne e hd.out.blk (by decide) rfl)).trans HG4.out
    have k5 : w5.cell? ⟨g, 5, none⟩ = some v := blk_cell hg50 5
    have f5 := blk_frozen hg50 5
    have b5 := (hf5.2 b0 (blk_lt H4.out) HRB.out).trans H4.out
    have hb5 : (w5.setCell ⟨g, 5, none⟩ (.slice A5 q5 C5)).heap[b0]? = _ := (Below.heap_setCell w5 ⟨g, 5, none⟩ (.slice A5 q5 C5) b0 (fun e => HBN.out (e ▸ hd.out.here))).trans b5
    have HQ5 := Lib.hid (show (w5.setCell ⟨g, 5, none⟩ (.slice A5 q5 C5)).cell? ⟨b0, 0, none⟩ = some (.int .i64 (x.1 : Nat)) ∧ (w5.setCell ⟨g, 5, none⟩ (.slice A5 q5 C5)).cell? ⟨b0, 1, none⟩ = some x.2.v from ⟨blk_cell hb5 0, blk_cell hb5 1⟩)
    have HF5 := Lib.hid hf5
    have HR5 := Lib.hid hr5
    clear hg50 b5 hb5 hf5 hr5 hg5
    refine wpAnyH_ready (rs := [10]) (by decide +kernel) (by simp) ?_
    refine AllReadyH.cons rfl (fun K hK => ?_) AllReadyH.nil
    (try simp only [List.getElem_toArray, List.getElem_cons_zero, List.getElem_cons_succ])
    go_simp
    refine hK.out _ _ ?_ (fun hHeld => ?_)
    focus ((try dsimp only); exact HQ5.out; done)
    clear hK K
    (try simp only [Act.put, List.getElem_toArray, List.getElem_cons_zero, List.getElem_cons_succ, List.setIfInBounds_toArray, List.set_cons_zero, List.set_cons_succ])
    refine wpAnyH_done (by decide +kernel) ?_ _
    go_wp2_with fail
    go_end0
    refine ⟨rfl, ?_⟩
    have hA : Fr (fun k => v.ownBlock = some k) u2 u4 := Fr.of HA.out
    have hfin := hd.out.push hx1.out HLT.out HF.out HM.out HP.out (hA.trans HF5.out (fun _ _ e => e)) (fun T' h1 h2 => HR5.out T' h1 (fun hlt => h2 _ (by have := HF.out.1.size; have := HA.out.size; omega) hlt)) (W4 := w5.setCell ⟨g, 5, none⟩ (.slice A5 q5 C5)) rfl
    exact DkTo.trans (Fr.of HB.out) (Ext.refl _ _) hfin
end Go.Proofs.YtfjiceoagenfnaaDoor
