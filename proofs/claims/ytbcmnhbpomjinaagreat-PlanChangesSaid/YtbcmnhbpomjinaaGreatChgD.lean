/- The program's maps of parcels: a store at any key; the library's Clone and Copy of them. -/
import Derived.Test.YtbcmnhbpomjinaaGreatPgJ
import Derived.Test.YtbcmnhbpomjinaaGreatSortM
import Derived.Shelf.SlMaps.Clone
import Derived.Test.YtbcmnhbpomjinaaGreatPgM
import Derived.Test.YtbcmnhbpomjinaaGreatRefSame
import Derived.Maps.OwnIn
namespace Go.Proofs.YtbcmnhbpomjinaaGreat
open Go.RowKit Go.ChangeMaps Go.MapKept

/-- What a list of keys and elements tells of each key. -/
def IsFn {α β : Type} (l : List (α × β)) (f : α → Option β) : Prop := ∀ x y, (x, y) ∈ l ↔ f x = some y
section
variable {α β : Type} [DecidableEq α] {T : TypeId} {ek : α → Value} {ev : β → Value} {Ok : α → Prop} {W W' : World} {b : Nat} {l : List (α × β)} {t e : TypeId}
omit [DecidableEq α] in
theorem isFn_nil : IsFn ([] : List (α × β)) (fun _ => none) := by
  intro x y
  exact ⟨fun h => absurd h List.not_mem_nil, fun h => by cases h⟩
omit [DecidableEq α] in
theorem IsFn.keys {f : α → Option β} (h : IsFn l f) (x : α) : x ∈ l.map Prod.fst ↔ ∃ y, f x = some y := by
  constructor
  · intro hx
    obtain ⟨⟨x', y⟩, hp, rfl⟩ := List.mem_map.1 hx
    exact ⟨y, (h _ _).1 hp⟩
  · rintro ⟨y, hy⟩
    exact List.mem_map.2 ⟨(x, y), (h _ _).2 hy, rfl⟩
theorem IsFn.app {f : α → Option β} (h : IsFn l f) {a : α} (v : β) (hn : a ∉ l.map Prod.fst) : IsFn (l ++ [(a, v)]) fun x => if x = a then some v else f x := fun x y => by
  rw [List.mem_append, List.mem_singleton, h x y]
  show _ ↔ (if x = a then some v else f x) = some y
  by_cases e : x = a
  · subst e
    rw [if_pos rfl]
    constructor
    · rintro (h1 | h1)
      · exact absurd ((h.keys x).2 ⟨y, h1⟩) hn
      · exact congrArg some (Prod.ext_iff.1 h1).2.symm
    · intro h1
      exact .inr (by rw [Option.some.inj h1])
  · rw [if_neg e]
    exact ⟨fun h1 => h1.resolve_right fun h2 => e (Prod.ext_iff.1 h2).1, .inl⟩
theorem IsFn.over {f : α → Option β} (h : IsFn l f) (hnd : (l.map Prod.fst).Nodup) {j : Nat} {p : α × β} (hj : l[j]? = some p) (v : β) : IsFn (l.set j (p.1, v)) fun x => if x = p.1 then some v else f x := fun x y => by
  obtain ⟨hjl, ej⟩ := List.getElem?_eq_some_iff.1 hj
  rw [List.mem_iff_getElem?]
  show _ ↔ (if x = p.1 then some v else f x) = some y
  by_cases e : x = p.1
  · subst e
    rw [if_pos rfl]
    constructor
    · rintro ⟨i, hi⟩
      rw [List.getElem?_set] at hi
      by_cases ei : j = i
      · rw [if_pos ei, if_pos hjl] at hi
        exact congrArg some (Prod.ext_iff.1 (Option.some.inj hi)).2
      · rw [if_neg ei] at hi
        obtain ⟨hil, ei2⟩ := List.getElem?_eq_some_iff.1 hi
        exfalso
        have h1 := List.pairwise_iff_getElem.1 hnd
        have e1 : (l.map Prod.fst)[i]'(by rw [List.length_map]; exact hil) = p.1 := by rw [List.getElem_map, ei2]
        have e2 : (l.map Prod.fst)[j]'(by rw [List.length_map]; exact hjl) = p.1 := by rw [List.getElem_map, ej]
        rcases Nat.lt_trichotomy i j with hl | hl | hl
        · exact h1 i j (by rw [List.length_map]; exact hil) (by rw [List.length_map]; exact hjl) hl (e1.trans e2.symm)
        · exact ei hl.symm
        · exact h1 j i (by rw [List.length_map]; exact hjl) (by rw [List.length_map]; exact hil) hl (e2.trans e1.symm)
    · intro h1
      refine ⟨j, ?_⟩
      rw [List.getElem?_set, if_pos rfl, if_pos hjl, Option.some.inj h1]
  · rw [if_neg e, ← h x y, List.mem_iff_getElem?]
    constructor
    · rintro ⟨i, hi⟩
      rw [List.getElem?_set] at hi
      by_cases ei : j = i
      · rw [if_pos ei, if_pos hjl] at hi
        exact absurd (Prod.ext_iff.1 (Option.some.inj hi)).1.symm e
      · rw [if_neg ei] at hi
        exact ⟨i, hi⟩
    · rintro ⟨i, hi⟩
      refine ⟨i, ?_⟩
      rw [List.getElem?_set]
      by_cases ei : j = i
      · subst ei
        exact absurd (Prod.ext_iff.1 (Option.some.inj (hj.symm.trans hi))).1.symm e
      · rw [if_neg ei]; exact hi
/-- A store at any key. -/
theorem MapIs.put {f : α → Option β} (h : MapIs W b ek ev Ok l) (hf : IsFn l f) (K : KeyK T ek Ok) (ht : Tryz.prog.underlying t = some (.map T e)) {a : α} (ha : Ok a) (v : β) :
    ∃ W' l', (Instr.mapUpdate t (.map (some b)) (ek a) (ev v)).run Tryz.prog W = .ok () W' ∧ MapIs W' b ek ev Ok l' ∧ IsFn l' (fun x => if x = a then some v else f x) ∧ l'.length ≤ l.length + 1 ∧ W.grownBy W' (some b) ∧ W'.heap.size = W.heap.size := by
  by_cases hn : a ∉ l.map Prod.fst
  · obtain ⟨W', h1, h2, h3, h4⟩ := h.store K ht ha hn v
    exact ⟨W', _, h1, h2, hf.app v hn, by simp, h3, h4⟩
  · have hnd := h.nodup
    obtain ⟨es, c, hb, hl, hs, hok⟩ := h
    obtain ⟨kl, hkey⟩ := K.lit a ha
    have hks : ∀ x ∈ es.toList, ∃ y, keyOf Tryz.prog T x.key = some y := fun x hx => by
      obtain ⟨p, hp, e1, _⟩ := entry_of hl hx
      rw [e1]
      exact K.lit _ (hok p hp)
    rcases K.K.find W hkey es.toList hks with ⟨h1, h2⟩ | ⟨j, e0, h1, h2, h3⟩
    · exfalso
      refine hn fun hm => ?_
      obtain ⟨p, hp, e1⟩ := List.mem_map.1 hm
      obtain ⟨x, hx, e2, _⟩ := of_entry hl hp
      exact h2 x hx (by rw [e2, e1])
    · have hj : es[j]? = some e0 := by simpa using h2
      have hjl : j < l.length := by
        have h4 : es.toList.length = l.length := by rw [← List.length_map (f := fun e : MapEntry => (e.key, e.val)), hl, List.length_map]
        have := (List.getElem?_eq_some_iff.1 h2).1
        omega
      obtain ⟨p, hp⟩ : ∃ p, l[j]? = some p := ⟨l[j], List.getElem?_eq_getElem hjl⟩
      have hkp : e0.key = ek p.1 := by
        have := congrArg (fun q => q[j]?) hl
        simp only [List.getElem?_map, h2, hp, Option.map_some] at this
        exact congrArg Prod.fst (Option.some.inj this)
      have hpa : p.1 = a := K.inj _ _ (by rw [← hkp, h3])
      have hlist : (es.modify j (fun e' => { e' with key := ek a, val := ev v })).toList = es.toList.set j { e0 with key := ek a, val := ev v } := by rw [Array.toList_modify, modify_eq_set _ _ _ _ h2]
      refine ⟨setBlock W b (.map (es.modify j fun e => { e with key := ek a, val := ev v }) c), l.set j (p.1, v), ?_, ⟨_, _, heap_setBlock_same hb _, ?_, stamped_modify hs _ _ (fun _ _ => rfl) (fun x _ hx => ?_), ?_⟩, ?_, by rw [List.length_set]; omega, ⟨rfl, rfl, rfl, by simp [setBlock], fun i _ hi => heap_setBlock_other hb _ (fun e => hi (by rw [e]))⟩, by simp [setBlock]⟩
      · simp [Instr.mapUpdate, run_underlying ht, MapKept.run_getObj_map hb, K.K.check W false hkey, h1, hj, h3, K.K.stays W hkey, MapKept.run_setObj_map _ hb, Result.andThen, setBlock]
      · rw [hlist]
        exact set_of hl j (by show (ek a, ev v) = (ek p.1, ev v); rw [hpa])
      · have : x = e0 := by
          rw [hj] at hx; exact (Option.some.inj hx).symm
        rw [this, h3]
      · intro q hq
        rcases List.mem_or_eq_of_mem_set hq with h | rfl
        · exact hok q h
        · exact hok p (List.mem_of_getElem? hp)
      · rw [← hpa]
        exact hf.over hnd hp v
end
end Go.Proofs.YtbcmnhbpomjinaaGreat

/- The library's Keys and Collect at a map of parcels, and what the program's closure asks of such maps. -/
namespace Go.Proofs.YtbcmnhbpomjinaaGreat
open Go.RowKit Go.Shelf
attribute [local go_sem] Oper.semAt_some

/-- A parcel as a map holds it. -/
def pvV (x : PV) : Value := .agg #[.int .i64 x.par.id, .slice x.A x.par.ring.length x.cap, .string x.par.own]
theorem keyI : KeyK 3 iv In64 where
  K := Go.Maps.int_keyed Tryz.underlying3
  lit a ha := by
    have w1 := wf64 ha
    refine ⟨_, by
      unfold keyOf
      rw [Tryz.underlying3]
      simp [mapKey, iv, w1, Tryz.underlying3]
      rfl⟩
  inj a b h := by
    unfold iv at h
    simpa using h
theorem zeroV (w : World) : (zeroValue 34).run Tryz.prog w = .ok (pvV ⟨⟨0, [], ⟨#[]⟩⟩, none, 0⟩) w := by kernel_rfl

set_option maxRecDepth 100000 in
set_option maxHeartbeats 1000000 in
theorem keysI1_in (F : Fence) (n : Nat) (hf : F.fn 103) (hro : F.round = none) (hn : 1 ≤ n) (l Bm b : Nat) (L : List (Int × PV)) (J Jx : List Int → World → Prop)
    (hY : ∀ pre x W, J pre W → pre.length < L.length → YieldAt F (n - 1) Tryz.prog l #[iv x] W fun e W' =>
      (e = .returned (.bool true) ∧ J (pre ++ [x]) W' ∧ KeepsWalks W W') ∨ (e = .returned (.bool false) ∧ Jx (pre ++ [x]) W'))
    (W : World) (hJ : AbidesFrom W.heap.size J) (hm : W.cell? ⟨Bm, 0, none⟩ = some (.map (some b))) (hown : MapIs W b iv pvV In64 L) (h0 : J [] W) :
    CallsIn F n Tryz.prog 103 #[.func (.yield l) #[] #[], .pointer (some ⟨Bm, 0, none⟩)] W fun e W' => (∃ v, e = .returned v) ∧
      ((∃ ys, ys.Perm (L.map Prod.fst) ∧ J ys W') ∨ (∃ pre, Jx pre W')) := by
  refine callsIn_of_wp Tryz.func103 rfl hf ?_ hro
  simp only [Tryz.ntmps103, List.size_toArray, List.length_cons, List.length_nil, Nat.reduceAdd, Nat.reduceSub, Array.replicate_succ, Array.replicate_zero, List.push_toArray, List.append_toArray, List.nil_append, List.cons_append]
  gi_wp2_with (gi_at_range; refine wpIn_range rfl _ 97 rfl 3 34 Tryz.underlying97 b rfl hown ?_; intro w0 hrg0 hg0 hs0)
  go_frame
  have hJ0 := hJ [] W w0 none h0 hg0 (fun r e => by cases e)
  gi_loopw [3] (fun _ wr => ∃ left ys, Ranges wr b W.heap.size iv pvV In64 L left ∧ (ys ++ left.map Prod.fst).Perm (L.map Prod.fst) ∧ J ys wr) (fun _ wr => wr.rangeLeft b W.heap.size)
  case atStart => exact ⟨L, [], hrg0, List.Perm.refl _, hJ0⟩
  case round =>
    obtain ⟨left, ys, hrg, hP, hJs⟩ := hrel
    have HRS := Lib.hid hrg
    have HP := Lib.hid hP
    clear hrg hP
    gi_wp2_with (
      (gi_at_next; refine wpIn_next rfl _ rfl W.heap.size rfl HRS.out ?_ (fun l1 p l2 W5 hl hrg hg5 hs5 hen => ?_); rotate_left; (simp only [iv, pvV] at hen ⊢); (have HL := Lib.hid hl); (have HRG := Lib.hid hrg); (have HG5 := Lib.hid hg5); clear hl hrg hg5 hs5; rotate_left))
    · intro hnil
      have HPN : Hid (ys.Perm (L.map Prod.fst)) := by have := HP.out; rw [hnil] at this; unfold Hid; simpa using this
      clear hnil
      gi_wp2
      go_end0
      exact ⟨⟨_, rfl⟩, .inl ⟨ys, HPN.out, hJs⟩⟩
    · obtain ⟨e, m⟩ := p
      have hlen : ys.length < L.length := by
        have h1 := HP.out.length_eq
        rw [List.length_append, List.length_map, List.length_map, HL.out, List.length_append, List.length_cons] at h1
        omega
      have hJ5 := hJ ys wr W5 (some W.heap.size) hJs HG5.out (fun r e => by cases e; exact ⟨Nat.le_refl _, HRS.out.walk⟩)
      have hR6 := HRG.out
      obtain ⟨fn, tmps, assign, body, hy, hR⟩ := hY ys e _ hJ5 hlen
      simp only [iv] at hy
      have HLN : Hid ((l1 ++ l2).length < left.length) := by unfold Hid; rw [HL.out]; simp
      have HP1 : Hid (((ys ++ [e]) ++ (l1 ++ l2).map Prod.fst).Perm (L.map Prod.fst)) := by
        refine List.Perm.trans ?_ HP.out
        rw [HL.out, List.append_assoc]
        refine List.Perm.append_left ys ?_
        rw [List.map_append, List.map_append, List.map_cons]
        show (e :: (l1.map Prod.fst ++ l2.map Prod.fst)).Perm (l1.map Prod.fst ++ e :: l2.map Prod.fst)
        exact List.perm_middle.symm
      gi_wp2
      refine hR.mono ?_
      rintro e' W3 (⟨rfl, hJ3, hk3⟩ | ⟨rfl, hJx3⟩)
      · have HR3 := Lib.hid (hR6.of_walks hk3)
        clear hR6 hy hR
        gi_wp2
        go_roundw
        case rel => exact ⟨l1 ++ l2, ys ++ [e], HR3.out, HP1.out, hJ3⟩
        case measure => rw [HR3.out.left_eq, HRS.out.left_eq]; exact HLN.out
      · clear hR6 hy hR
        gi_wp2
        refine bodyPost_ret (results_none rfl _ _ _) rfl ?_
        exact ⟨⟨_, rfl⟩, .inr ⟨_, hJx3⟩⟩
theorem keysI_stops (F : Fence) (n : Nat) (hf : F.fn 103) (hro : F.round = none) (hn : 1 ≤ n) (Bm b : Nat) (L : List (Int × PV)) (w : World) (hBm : Bm < w.heap.size)
    (hm : w.cell? ⟨Bm, 0, none⟩ = some (.map (some b))) (hown : MapIs w b iv pvV In64 L) :
    SeqStopsK F n Tryz.prog 103 #[.pointer (some ⟨Bm, 0, none⟩)] (fun x : Int => #[iv x]) KeepsWalks (fun ys => ys.Perm (L.map Prod.fst)) (fun _ => True) L.length w := fun l J Jx W hW hJ _ hY h0 =>
  (keysI1_in F n hf hro hn l Bm b L J Jx hY W hJ ((hW.cell (p := ⟨Bm, 0, none⟩) hBm).trans hm) (hown.on hW hown.lt) h0).mono fun _ _ ⟨h1, h2⟩ => ⟨h1, h2.imp id (fun ⟨pre, h⟩ => ⟨pre, trivial, h⟩)⟩
theorem keysI_in (F : Fence) (n : Nat) (hf : F.fn 65) (hro : F.round = none) (mb : Option Nat) (w : World) :
    CallsIn F n Tryz.prog 65 #[.map mb] w fun e w' => e = .returned (.func (.func 103) #[] #[.pointer (some ⟨w.heap.size, 0, none⟩)]) ∧ w' = w.alloc (.cells #[.map mb] 97) := by
  refine callsIn_of_wp Tryz.func65 rfl hf ?_ hro
  simp only [Tryz.ntmps65, List.size_toArray, List.length_cons, List.length_nil, Nat.reduceAdd, Nat.reduceSub, Array.replicate_succ, Array.replicate_zero, List.push_toArray, List.append_toArray, List.nil_append, List.cons_append]
  gi_wp2
  go_ret
  exact ⟨rfl, rfl⟩
theorem keysI_any (mb : Option Nat) (w : World) :
    Calls Tryz.prog 65 #[.map mb] w fun e w' => e = .returned (.func (.func 103) #[] #[.pointer (some ⟨w.heap.size, 0, none⟩)]) ∧ w' = w.alloc (.cells #[.map mb] 97) :=
  (callsIn_wide (n := 3)).1 (keysI_in Fence.wide 3 trivial rfl mb w)
set_option maxRecDepth 100000 in
set_option maxHeartbeats 2000000 in
theorem appendSeqI_in (n : Nat) (hn : 4 ≤ n) (Bm b : Nat) (L : List (Int × PV)) (hL : L.length ≤ 1000000) (w : World) (hBm : Bm < w.heap.size) (hm : w.cell? ⟨Bm, 0, none⟩ = some (.map (some b))) (hown : MapIs w b iv pvV In64 L) :
    CallsIn Fence.wide n Tryz.prog 131 #[.slice none 0 0, .func (.func 103) #[] #[.pointer (some ⟨Bm, 0, none⟩)]] w fun e w' => ∃ v ys, e = .returned v ∧ ys.Perm (L.map Prod.fst) ∧ RowI w 3 1 encN v ys w' := by
  have h1 : 1 ≤ n := by omega
  refine callsIn_of_wp_marks Tryz.func131 rfl trivial ?_ rfl
  simp only [Tryz.ntmps131, List.size_toArray, List.length_cons, List.length_nil, Nat.reduceAdd, Nat.reduceSub, Array.replicate_succ, Array.replicate_zero, List.push_toArray, List.append_toArray, List.nil_append, List.cons_append]
  obtain ⟨i0, hi, hz0, hz1, hz2⟩ := info_parts (show (Tryz.prog.info? 3).map (fun i => (i.zero, i.size, i.bytes)) = some (some (.int .i64 0), 1, 8) by kernel_rfl)
  gi_wp2
  have hBx : Boxed (w.alloc (Obj.cells #[.slice none 0 0] 51)) w.heap.size 51 (.slice none 0 0) := Boxed.new w _ _
  have hb0 : Below w.heap.size w (w.alloc (Obj.cells #[.slice none 0 0] 51)) := (Below.refl _ w).alloc (Nat.le_refl _) _
  have hsz : w.heap.size < (w.alloc (Obj.cells #[.slice none 0 0] 51)).heap.size := by simp
  have hseq := keysI_stops Fence.wide (n - 1) trivial rfl (by omega) Bm b L w hBm hm hown
  generalize (w.alloc (Obj.cells #[.slice none 0 0] 51)) = W0 at hBx hb0 hsz ⊢
  refine wpIn_rangeFunc_ownH rfl h1 (gf := 103) (lb := #[.pointer (some ⟨Bm, 0, none⟩)]) rfl trivial (enters_of Tryz.func103 (by kernel_rfl) rfl)
    hseq walksK_t walksK_b hb0 (fun _ => rfl)
    (fun pre W => (∃ v, Boxed W w.heap.size 51 v ∧ W.ownsRow w.heap.size 3 1 v pre.length (pre.flatMap encN) ∧ True) ∧ Below w.heap.size w W)
    (fun _ _ _ => False)
    (OwnFrom.and (Own.from (holdsRow_own w.heap.size w.heap.size 51 3 1 (fun pre : List Int => pre.length) (fun pre => pre.flatMap encN) (fun _ _ => True)) _) (ownFrom_below (Nat.le_refl _) (by omega)))
    (fun _ _ _ _ _ hs _ _ => hs)
    ⟨⟨_, hBx, World.ownsRow_nil _ _ _ _, trivial⟩, hb0⟩
    (fun x a' W => a' = { tmps := #[.slice none 0 0, .func (.func 103) #[] #[.pointer (some ⟨Bm, 0, none⟩)], .pointer (some ⟨w.heap.size, 0, none⟩), undef, .slice none 0 0, iv x, .func (.func 103) #[] #[.pointer (some ⟨Bm, 0, none⟩)], iv x, undef, undef, undef, undef, undef], defers := [] })
    (fun x a' _ X Y row hs hg hr => hs)
    ?assign ?body ?done ?stop
  case assign =>
    rintro l pre x W K ⟨⟨v, hv, hr, _⟩, hB⟩ hK
    unfold iv
    gi_wp2
    exact hK _ _ (KeepsFrom.refl _ _) (KeepsWalks.refl _) ⟨⟨v, hv, hr, trivial⟩, hB⟩ rfl
  case body =>
    rintro l pre x a' W hl ⟨r, hr'⟩ ⟨⟨v, hv, hrow, _⟩, hB⟩ rfl hlt2
    unfold iv
    have hcv := hv.cell
    gi_wp2_with (gi_at_builtin; go_must (refine wpListIn_append_own _ rfl _ _ 51 rfl w.heap.size 3 i0 (.int .i64 0) 1 8 Tryz.underlying51 hi hz0 hz1 hz2 rfl (by decide) v _ _ rfl (hrow.alloc _) ⟨W.heap.size, 0, none⟩ 1 1 (encN x) rfl rfl (fun j u hu => by rw [add_off, blk_cell (heap_alloc_new _ _), ← hu]; simp [encN]) (kindN.one x) (by unfold maxLen; omega) (by omega) (by have := hB.size; simp; omega) ?_; intro v' w5 hown5 hgrow5 _; obtain ⟨g', cap', rfl⟩ := ownsRow_succ hown5; obtain ⟨hv1, hv2, hr2, hk2, hb2⟩ := hv.appended (show (51 : Nat) ≠ 3 by decide) hrow hB.size (Nat.le_refl _) hown5 hgrow5; have hc1 := hv1.cell; have hf1 := hv1.frozen))
    refine ⟨hk2.from _, ⟨hk2.size, fun k o hk hw => hk2.same k o hk (by cases o <;> first | rfl | cases hw)⟩, ⟨⟨_, hv2, ?_, trivial⟩, Below.trans hB hb2⟩⟩
    rw [List.length_append, List.flatMap_append, List.flatMap_cons, List.flatMap_nil, List.append_nil]
    exact hr2
  case done =>
    rintro D ys W hD hP ⟨⟨v, hv, hrow, _⟩, hB⟩ hK
    have hcv := hv.cell
    gi_wp2
    refine ⟨by simp, .inl ⟨_, _, rfl, run_takeDeferred hK, ?_⟩⟩
    exact ⟨_, results_tmp rfl _ _ _, v, ys, rfl, hP, Below.trans hB (belowK_b (w := w) (Nat.le_refl _) W D _ _ (by omega) hK rfl rfl), ownsRow_putObj hrow _ hK rfl⟩
  case stop =>
    rintro D c pre W _ _ h _
    exact h.elim
set_option maxHeartbeats 1000000 in
theorem collectI_any (Bm b : Nat) (L : List (Int × PV)) (hL : L.length ≤ 1000000) (w : World) (hBm : Bm < w.heap.size) (hm : w.cell? ⟨Bm, 0, none⟩ = some (.map (some b))) (hown : MapIs w b iv pvV In64 L) :
    Calls Tryz.prog 101 #[.func (.func 103) #[] #[.pointer (some ⟨Bm, 0, none⟩)]] w fun e w' => ∃ v ys, e = .returned v ∧ ys.Perm (L.map Prod.fst) ∧ RowI w 3 1 encN v ys w' := by
  have HA := Lib.hid ((callsIn_wide (n := 6)).1 (appendSeqI_in 6 (by omega) Bm b L hL w hBm hm hown))
  clear hm hown
  go_enter Tryz.func101, Tryz.ntmps101
  go_wp2_with (go_at_call 131; go_must (refine HA.out.mono ?_; rintro e w' ⟨v, ys, rfl, hp, hr⟩; have HP := Lib.hid hp; have HR := Lib.hid hr; clear hp hr))
  go_ret
  exact ⟨v, ys, rfl, HP.out, HR.out⟩
end Go.Proofs.YtbcmnhbpomjinaaGreat

/- The program's same, and what Changed deletes by. -/
namespace Go.Proofs.YtbcmnhbpomjinaaGreat
open Go.RowKit

set_option maxRecDepth 100000 in
set_option maxHeartbeats 1000000 in
theorem sameP_any (x y : Par) (A B : Option Addr) (ca cb : Nat) (hn : x.ring.length ≤ 1000000) (w : World) (h1 : Pts w w.heap.size A x.ring) (h2 : Pts w w.heap.size B y.ring) :
    Calls Tryz.prog 67 #[.agg #[.int .i64 x.id, .slice A x.ring.length ca, .string x.own], .agg #[.int .i64 y.id, .slice B y.ring.length cb, .string y.own]] w fun e w' => e = .returned (.bool (decide (x.ring = y.ring) && decide (x.own = y.own))) ∧ Below w.heap.size w w' := by
  have HQ := ((Hold.refl w).new #[.int .i64 x.id, .slice A x.ring.length ca, .string x.own] 34).new #[.int .i64 y.id, .slice B y.ring.length cb, .string y.own] 34
  have HSM := Lib.hid (fun W (hb : Below w.heap.size w W) => equalP_any x.ring y.ring A B ca cb hn W (h1.on hb) (h2.on hb))
  clear h1 h2 hn
  go_enter Tryz.func67, Tryz.ntmps67
  go_upto_region 1 with (fail)
  simp only [World.size_alloc] at HQ
  generalize (World.alloc _ _) = W1 at HQ ⊢
  obtain ⟨g1, hg1⟩ : ∃ g, w.heap.size + 1 = g := ⟨_, rfl⟩
  rw [hg1] at HQ ⊢
  obtain ⟨g0, hg0⟩ : ∃ g, w.heap.size = g := ⟨_, rfl⟩
  rw [hg0] at HQ ⊢
  have HG0 := Lib.hid hg0
  clear hg1 hg0
  obtain ⟨a0, a1, a2⟩ := HQ.q3 (.tail _ (.head _))
  obtain ⟨b0, b1, b2⟩ := HQ.q3 (.head _)
  have HB := Lib.hid HQ
  clear HQ
  by_cases e1 : x.ring = y.ring
  · have f1 : decide (x.ring = y.ring) = true := decide_eq_true e1
    clear e1
    by_cases e2 : x.own = y.own
    · have f2 : (x.own.toList == y.own.toList) = true := by rw [e2]; exact beq_self_eq_true _
      have HE : Hid (decide (x.own = y.own) = true) := decide_eq_true e2
      clear e2
      go_wp2_with (go_at_call 104; go_must (refine (HSM.out _ HB.out.1).mono ?_; rintro e' W2 ⟨rfl, hB⟩; rw [f1]; have HB2 := Lib.hid (HB.out.on hB); obtain ⟨d0, d1, d2⟩ := HB2.out.q3 (.tail _ (.head _)); obtain ⟨k0, k1, k2⟩ := HB2.out.q3 (.head _); clear hB))
      go_ret
      rw [f1, HE.out]
      exact ⟨rfl, HB2.out.1⟩
    · have f2 : (x.own.toList == y.own.toList) = false := by
        rw [Bool.eq_false_iff]; intro h; exact e2 (bytes_eq (eq_of_beq h))
      have HE : Hid (decide (x.own = y.own) = false) := decide_eq_false e2
      clear e2
      go_wp2_with (go_at_call 104; go_must (refine (HSM.out _ HB.out.1).mono ?_; rintro e' W2 ⟨rfl, hB⟩; rw [f1]; have HB2 := Lib.hid (HB.out.on hB); obtain ⟨d0, d1, d2⟩ := HB2.out.q3 (.tail _ (.head _)); obtain ⟨k0, k1, k2⟩ := HB2.out.q3 (.head _); clear hB))
      go_ret
      rw [f1, HE.out]
      exact ⟨rfl, HB2.out.1⟩
  · have f1 : decide (x.ring = y.ring) = false := decide_eq_false e1
    clear e1
    go_wp2_with (go_at_call 104; go_must (refine (HSM.out _ HB.out.1).mono ?_; rintro e' W2 ⟨rfl, hB⟩; rw [f1]; have HB2 := Lib.hid (HB.out.on hB); clear hB))
    go_ret
    rw [f1]
    exact ⟨rfl, HB2.out.1⟩

/-- Both have a parcel there, with the same corners and owner. -/
def AlikeB (f g : Int → Option PV) (id : Int) : Prop := ∃ x y, f id = some x ∧ g id = some y ∧ x.par.ring = y.par.ring ∧ x.par.own = y.par.own
/-- A map of parcels, in memory with their corners. -/
def MapP (W : World) (b : Nat) (f : Int → Option PV) : Prop := ∃ l, MapIs W b iv pvV In64 l ∧ IsFn l f ∧ ∀ id x, f id = some x → Pts W W.heap.size x.A x.par.ring ∧ x.par.ring.length ≤ 1000000
theorem MapP.on {W W' : World} {b : Nat} {f : Int → Option PV} (h : MapP W b f) (hb : Below W.heap.size W W') : MapP W' b f := by
  obtain ⟨l, h1, h2, h3⟩ := h
  exact ⟨l, h1.on hb h1.lt, h2, fun id x hx => ⟨(h3 id x hx).1.on hb, (h3 id x hx).2⟩⟩
set_option maxRecDepth 100000 in
set_option maxHeartbeats 1000000 in
theorem del_any (f g : Int → Option PV) (b1 b2 q1 q2 : Nat) (id : Int) (hid : In64 id) (w : World) (hf : MapP w b1 f) (hg : MapP w b2 g) (hq1 : w.cell? ⟨q1, 0, none⟩ = some (.map (some b1))) (hq2 : w.cell? ⟨q2, 0, none⟩ = some (.map (some b2))) (hl1 : q1 < w.heap.size) (hl2 : q2 < w.heap.size) :
    Calls Tryz.prog 66 #[.int .i64 id, .pointer (some ⟨q1, 0, none⟩), .pointer (some ⟨q2, 0, none⟩)] w fun e w' => ∃ b, e = .returned (.bool b) ∧ (b = true ↔ AlikeB f g id) ∧ Below w.heap.size w w' := by
  have HI := Lib.hid hid
  obtain ⟨l1, hm1, hf1, hp1⟩ := hf
  obtain ⟨l2, hm2, hf2, hp2⟩ := hg
  have HM1 := Lib.hid hm1
  have HM2 := Lib.hid (fun W (h : Below w.heap.size w W) => hm2.on h hm2.lt)
  have HP1 := Lib.hid (fun W (h : Below w.heap.size w W) x hx => (hp1 id x hx).1.on h)
  have HP2 := Lib.hid (fun W (h : Below w.heap.size w W) x hx => (hp2 id x hx).1.on h)
  have HN := Lib.hid (fun x hx => (hp1 id x hx).2)
  have HQ2 := Lib.hid (fun W (h : Below w.heap.size w W) => (h.cell hl2).trans hq2)
  have HB0 := Lib.hid (Below.refl w.heap.size w)
  have HF1 := Lib.hid hf1
  have HF2 := Lib.hid hf2
  have HL1 := Lib.hid hl1
  have HS := Lib.hid (Hold.refl w)
  clear hm1 hm2 hp1 hp2 hf1 hf2 hid hl1 hl2
  by_cases k1 : id ∈ l1.map Prod.fst
  · have HK1 := Lib.hid k1
    clear k1
    by_cases k2 : id ∈ l2.map Prod.fst
    · have HK2 := Lib.hid k2
      clear k2
      go_enter Tryz.func66, Tryz.ntmps66
      go_upto_region 2 with (at_lookup; refine wp_look_yes (z := ⟨⟨0, [], ⟨#[]⟩⟩, none, 0⟩) rfl _ _ 97 rfl 34 keyI Tryz.underlying97 (zeroV _) b1 rfl HM1.out HI.out HK1.out rfl ?_; intro x9 hx9; have Hx9 := Lib.hid hx9; clear hx9; dsimp only [pvV])
      have HS1 := HS.out.new #[.int .i64 x9.par.id, .slice x9.A x9.par.ring.length x9.cap, .string x9.par.own] 34
      generalize (World.alloc _ _) = W1 at HS1 ⊢
      obtain ⟨g1, hg1⟩ : ∃ g, w.heap.size = g := ⟨_, rfl⟩
      rw [hg1] at HS1 ⊢
      have HX1 := Lib.hid HS1
      have HC2 := HQ2.out _ HS1.1
      clear HS1 hg1 hq1
      go_upto_region 3 with (at_lookup; refine wp_look_yes (z := ⟨⟨0, [], ⟨#[]⟩⟩, none, 0⟩) rfl _ _ 97 rfl 34 keyI Tryz.underlying97 (zeroV _) b2 rfl (HM2.out _ HX1.out.1) HI.out HK2.out rfl ?_; intro y9 hy9; have Hy9 := Lib.hid hy9; clear hy9; dsimp only [pvV])
      have HS2 := HX1.out.new #[.int .i64 y9.par.id, .slice y9.A y9.par.ring.length y9.cap, .string y9.par.own] 34
      generalize (World.alloc _ _) = W2 at HS2 ⊢
      generalize W1.heap.size = g2 at HS2 ⊢
      have HX2 := Lib.hid HS2
      obtain ⟨a0, a1, a2⟩ := HS2.q3 (.tail _ (.head _))
      obtain ⟨d0, d1, d2⟩ := HS2.q3 (.head _)
      clear HS2 HC2
      have HE1 := Lib.hid ((HF1.out _ _).1 Hx9.out)
      have HE2 := Lib.hid ((HF2.out _ _).1 Hy9.out)
      have HSM := Lib.hid (sameP_any x9.par y9.par x9.A y9.A x9.cap y9.cap (HN.out _ HE1.out) W2 (HP1.out _ HX2.out.1 _ HE1.out) (HP2.out _ HX2.out.1 _ HE2.out))
      go_wp2_with (go_at_call 67; go_must (refine HSM.out.mono ?_; rintro e' W3 ⟨rfl, hB⟩; have HB3 := Lib.hid (HX2.out.1.trans (hB.mono HX2.out.1.size)); clear hB))
      go_ret
      refine ⟨_, rfl, ?_, HB3.out⟩
      rw [Bool.and_eq_true, decide_eq_true_iff, decide_eq_true_iff]
      exact ⟨fun ⟨h1, h2⟩ => ⟨_, _, HE1.out, HE2.out, h1, h2⟩, fun ⟨x, y, h1, h2, h3, h4⟩ => by
        rw [HE1.out] at h1; rw [HE2.out] at h2
        obtain rfl := Option.some.inj h1
        obtain rfl := Option.some.inj h2
        exact ⟨h3, h4⟩⟩
    · have HK2 : Hid (id ∉ l2.map Prod.fst) := k2
      clear k2
      go_enter Tryz.func66, Tryz.ntmps66
      go_upto_region 2 with (at_lookup; refine wp_look_yes (z := ⟨⟨0, [], ⟨#[]⟩⟩, none, 0⟩) rfl _ _ 97 rfl 34 keyI Tryz.underlying97 (zeroV _) b1 rfl HM1.out HI.out HK1.out rfl ?_; intro x9 hx9; have Hx9 := Lib.hid hx9; clear hx9; dsimp only [pvV])
      have HS1 := HS.out.new #[.int .i64 x9.par.id, .slice x9.A x9.par.ring.length x9.cap, .string x9.par.own] 34
      generalize (World.alloc _ _) = W1 at HS1 ⊢
      obtain ⟨g1, hg1⟩ : ∃ g, w.heap.size = g := ⟨_, rfl⟩
      rw [hg1] at HS1 ⊢
      have HX1 := Lib.hid HS1
      have HC2 := HQ2.out _ HS1.1
      clear HS1 hg1 hq1
      go_upto_region 3 with (at_lookup; refine wp_look_no (z := ⟨⟨0, [], ⟨#[]⟩⟩, none, 0⟩) rfl _ _ 97 rfl 34 keyI Tryz.underlying97 (zeroV _) b2 rfl (HM2.out _ HX1.out.1) HI.out HK2.out rfl ?_; dsimp only [pvV])
      have HS2 := HX1.out.new #[.int .i64 0, .slice none 0 0, .string ⟨#[]⟩] 34
      generalize (World.alloc _ _) = W2 at HS2 ⊢
      generalize W1.heap.size = g2 at HS2 ⊢
      have HX2 := Lib.hid HS2
      obtain ⟨a0, a1, a2⟩ := HS2.q3 (.tail _ (.head _))
      obtain ⟨d0, d1, d2⟩ := HS2.q3 (.head _)
      clear HS2 HC2
      go_wp2
      go_ret
      refine ⟨false, rfl, ⟨fun h => Bool.noConfusion h, ?_⟩, HX2.out.1⟩
      rintro ⟨x, y, h1, h2, -, -⟩
      exact absurd ((HF2.out.keys _).2 ⟨_, h2⟩) HK2.out
  · have HK1 : Hid (id ∉ l1.map Prod.fst) := k1
    clear k1
    by_cases k2 : id ∈ l2.map Prod.fst
    · have HK2 := Lib.hid k2
      clear k2
      go_enter Tryz.func66, Tryz.ntmps66
      go_upto_region 2 with (at_lookup; refine wp_look_no (z := ⟨⟨0, [], ⟨#[]⟩⟩, none, 0⟩) rfl _ _ 97 rfl 34 keyI Tryz.underlying97 (zeroV _) b1 rfl HM1.out HI.out HK1.out rfl ?_; dsimp only [pvV])
      have HS1 := HS.out.new #[.int .i64 0, .slice none 0 0, .string ⟨#[]⟩] 34
      generalize (World.alloc _ _) = W1 at HS1 ⊢
      obtain ⟨g1, hg1⟩ : ∃ g, w.heap.size = g := ⟨_, rfl⟩
      rw [hg1] at HS1 ⊢
      have HX1 := Lib.hid HS1
      have HC2 := HQ2.out _ HS1.1
      clear HS1 hg1 hq1
      go_upto_region 3 with (at_lookup; refine wp_look_yes (z := ⟨⟨0, [], ⟨#[]⟩⟩, none, 0⟩) rfl _ _ 97 rfl 34 keyI Tryz.underlying97 (zeroV _) b2 rfl (HM2.out _ HX1.out.1) HI.out HK2.out rfl ?_; intro y9 hy9; have Hy9 := Lib.hid hy9; clear hy9; dsimp only [pvV])
      have HS2 := HX1.out.new #[.int .i64 y9.par.id, .slice y9.A y9.par.ring.length y9.cap, .string y9.par.own] 34
      generalize (World.alloc _ _) = W2 at HS2 ⊢
      generalize W1.heap.size = g2 at HS2 ⊢
      have HX2 := Lib.hid HS2
      obtain ⟨a0, a1, a2⟩ := HS2.q3 (.tail _ (.head _))
      obtain ⟨d0, d1, d2⟩ := HS2.q3 (.head _)
      clear HS2 HC2
      go_wp2
      go_ret
      refine ⟨false, rfl, ⟨fun h => Bool.noConfusion h, ?_⟩, HX2.out.1⟩
      rintro ⟨x, y, h1, h2, -, -⟩
      exact absurd ((HF1.out.keys _).2 ⟨_, h1⟩) HK1.out
    · have HK2 : Hid (id ∉ l2.map Prod.fst) := k2
      clear k2
      go_enter Tryz.func66, Tryz.ntmps66
      go_upto_region 2 with (at_lookup; refine wp_look_no (z := ⟨⟨0, [], ⟨#[]⟩⟩, none, 0⟩) rfl _ _ 97 rfl 34 keyI Tryz.underlying97 (zeroV _) b1 rfl HM1.out HI.out HK1.out rfl ?_; dsimp only [pvV])
      have HS1 := HS.out.new #[.int .i64 0, .slice none 0 0, .string ⟨#[]⟩] 34
      generalize (World.alloc _ _) = W1 at HS1 ⊢
      obtain ⟨g1, hg1⟩ : ∃ g, w.heap.size = g := ⟨_, rfl⟩
      rw [hg1] at HS1 ⊢
      have HX1 := Lib.hid HS1
      have HC2 := HQ2.out _ HS1.1
      clear HS1 hg1 hq1
      go_upto_region 3 with (at_lookup; refine wp_look_no (z := ⟨⟨0, [], ⟨#[]⟩⟩, none, 0⟩) rfl _ _ 97 rfl 34 keyI Tryz.underlying97 (zeroV _) b2 rfl (HM2.out _ HX1.out.1) HI.out HK2.out rfl ?_; dsimp only [pvV])
      have HS2 := HX1.out.new #[.int .i64 0, .slice none 0 0, .string ⟨#[]⟩] 34
      generalize (World.alloc _ _) = W2 at HS2 ⊢
      generalize W1.heap.size = g2 at HS2 ⊢
      have HX2 := Lib.hid HS2
      obtain ⟨a0, a1, a2⟩ := HS2.q3 (.tail _ (.head _))
      obtain ⟨d0, d1, d2⟩ := HS2.q3 (.head _)
      clear HS2 HC2
      go_wp2
      go_ret
      refine ⟨false, rfl, ⟨fun h => Bool.noConfusion h, ?_⟩, HX2.out.1⟩
      rintro ⟨x, y, h1, h2, -, -⟩
      exact absurd ((HF1.out.keys _).2 ⟨_, h1⟩) HK1.out
end Go.Proofs.YtbcmnhbpomjinaaGreat

/- The program's firsts: the first parcel of each number, by slices.Backward. -/
namespace Go.Proofs.YtbcmnhbpomjinaaGreat
open Go.RowKit Go.Shelf
attribute [local go_sem] Oper.semAt_some

section
variable {F : Fence} {n : Nat} {α β : Type} [DecidableEq α] {T : TypeId} {ek : α → Value} {ev : β → Value} {Ok : α → Prop} {W : World} {l : List (α × β)} {ops : Array Oper} {rest : List Oper} {o : Oper} {a : Act} {Q : Exit → Act → World → Prop}
theorem wpIn_put (hg : o.guard = none) (m x v : Operand) (t : TypeId) (hop : o.op = Op.mapUpdate t m x v) (e : TypeId) (K : KeyK T ek Ok) (ht : Tryz.prog.underlying t = some (.map T e)) (b : Nat)
    (hm : a.eval m = .map (some b)) {f : α → Option β} (h : MapIs W b ek ev Ok l) (hf : IsFn l f) {k : α} (hk : Ok k) {y : β} (hx : a.eval x = ek k) (hv : a.eval v = ev y)
    (hK : ∀ W' l', MapIs W' b ek ev Ok l' → IsFn l' (fun x => if x = k then some y else f x) → l'.length ≤ l.length + 1 → W.grownBy W' (some b) → W'.heap.size = W.heap.size → wpListIn F n Tryz.prog ops Q rest (a.put o.dst undef) W') : wpListIn F n Tryz.prog ops Q (o :: rest) a W := by
  refine wpListIn_plain hg fun K' hK' => ?_
  obtain ⟨W', l', hrun, r1, r2, r3, r4, r5⟩ := h.put hf K ht hk y
  unfold Oper.wpIn
  refine ⟨by simp [Oper.about, hop], ?_⟩
  rw [Oper.semAt_plain F _ _ (by rw [hop]; intro c hc'; cases hc')]
  simp [execOp, hop, hm, hx, hv, hrun, Result.andThen]
  exact hK' _ _ (hK W' l' r1 r2 r3 r4 r5)
theorem wp_put (hg : o.guard = none) (m x v : Operand) (t : TypeId) (hop : o.op = Op.mapUpdate t m x v) (e : TypeId) (K : KeyK T ek Ok) (ht : Tryz.prog.underlying t = some (.map T e)) (b : Nat)
    (hm : a.eval m = .map (some b)) {f : α → Option β} (h : MapIs W b ek ev Ok l) (hf : IsFn l f) {k : α} (hk : Ok k) {y : β} (hx : a.eval x = ek k) (hv : a.eval v = ev y)
    (hK : ∀ W' l', MapIs W' b ek ev Ok l' → IsFn l' (fun x => if x = k then some y else f x) → l'.length ≤ l.length + 1 → W.grownBy W' (some b) → W'.heap.size = W.heap.size → wpList Tryz.prog ops Q rest (a.put o.dst undef) W') : wpList Tryz.prog ops Q (o :: rest) a W := by
  refine wpList_plain hg fun K' hK' => ?_
  obtain ⟨W', l', hrun, r1, r2, r3, r4, r5⟩ := h.put hf K ht hk y
  unfold Oper.wp
  simp [execOp, hop, hm, hx, hv, hrun, Result.andThen]
  exact hK' _ _ (hK W' l' r1 r2 r3 r4 r5)
end
/-- All below n₀ stays, and all cells that were laid. -/
def KeptC (n₀ : Nat) (W W' : World) : Prop := Below n₀ W W' ∧ ∀ (k : Nat) (cs : Array Value) (t : TypeId) (fz : Nat × Nat), W.heap[k]? = some (Obj.cells cs t fz) → W'.heap[k]? = some (Obj.cells cs t fz)
section
variable {n₀ : Nat} {w W W' X Y Z : World}
theorem KeptC.refl (n₀ : Nat) (W : World) : KeptC n₀ W W := ⟨Below.refl _ _, fun _ _ _ _ h => h⟩
theorem KeptC.trans (h : KeptC n₀ X Y) (k : KeptC n₀ Y Z) : KeptC n₀ X Z := ⟨h.1.trans k.1, fun i cs t fz hi => k.2 i cs t fz (h.2 i cs t fz hi)⟩
theorem KeptC.put (hn : n₀ ≤ w.heap.size) (W : World) (l : Nat) (o o' : Obj) (hl : w.heap.size ≤ l) (h : W.heap[l]? = some o) (hc : o.isCells = false) (hw : o.isWalk = false) : KeptC n₀ W (W.putObj l o') :=
  ⟨(Kept.put hn W l o o' hl h hc hw).1, fun k cs t fz hk => by
    have hne : k ≠ l := fun e => by subst e; rw [hk] at h; cases h; cases hc
    rw [← hk]
    exact (grownBy_putObj' W l o').block k (blk_lt hk) (fun e => hne (Option.some.inj e))⟩
theorem KeptC.of_below (h : Below W.heap.size W W') (hn : n₀ ≤ W.heap.size) : KeptC n₀ W W' := ⟨h.mono hn, fun k _ _ _ hk => (h.block k (blk_lt hk)).trans hk⟩
end
def encB (ps : List PV) (x : Fin ps.length) : Array Value := #[.int .i64 (x.1 : Int), pvV ps[x.1]]
theorem take_prev {n m : Nat} (h : m < n) : (List.finRange n).reverse.take (n - m) = (List.finRange n).reverse.take (n - (m + 1)) ++ [⟨m, h⟩] := by
  have e : n - m = (n - (m + 1)) + 1 := by omega
  rw [e, List.take_succ_eq_append_getElem (by simp; omega)]
  congr 1
  simp
  omega

set_option maxRecDepth 100000 in
set_option maxHeartbeats 4000000 in
theorem back1_in (F : Fence) (n : Nat) (hf : F.fn 130) (hro : F.round = none) (hn : 1 ≤ n) (l Bs n₀ : Nat) (ps : List PV) (A : Option Addr) (cap : Nat) (hlen : ps.length ≤ 1000000) (J Jx : List (Fin ps.length) → World → Prop) (w W : World) (_ : AbidesFrom W.heap.size J)
    (hY : ∀ pre x W, J pre W → pre.length < ps.length → YieldAt F (n - 1) Tryz.prog l (encB ps x) W fun e W' =>
      (e = .returned (.bool true) ∧ J (pre ++ [x]) W' ∧ KeptC n₀ W W') ∨ (e = .returned (.bool false) ∧ Jx (pre ++ [x]) W'))
    (hn0 : n₀ = w.heap.size) (hp : Prs w A ps) (hwW : Below n₀ w W) (hBs : W.heap[Bs]? = some (Obj.cells #[.slice A ps.length cap] 24 (0, 0))) (h0 : J [] W) :
    CallsIn F n Tryz.prog 130 #[.func (.yield l) #[] #[], .pointer (some ⟨Bs, 0, none⟩)] W fun e W' => (∃ v, e = .returned v) ∧
      ((∃ ys, ys = (List.finRange ps.length).reverse ∧ J ys W') ∨ (∃ pre, Jx pre W')) := by
  subst hn0
  have hc0 : W.cell? ⟨Bs, 0, none⟩ = some (.slice A ps.length cap) := blk_cell hBs 0
  have hw0 := wrap_in (n := (ps.length : Int) - 1) (by omega) (by omega)
  refine callsIn_of_wp Tryz.func130 rfl hf ?_ hro
  simp only [Tryz.ntmps130, List.size_toArray, List.length_cons, List.length_nil, Nat.reduceAdd, Nat.reduceSub, Array.replicate_succ, Array.replicate_zero, List.push_toArray, List.append_toArray, List.nil_append, List.cons_append]
  gi_wp2
  clear hw0
  gi_loopw [3] (fun i wr => ∃ k : Nat, k ≤ ps.length ∧ i = .int .i64 ((k : Int) - 1) ∧ J ((List.finRange ps.length).reverse.take (ps.length - k)) wr ∧ KeptC w.heap.size W wr)
    (fun i _ => (intOf i + 1).toNat)
  case atStart => exact ⟨ps.length, Nat.le_refl _, by go_num, by rw [Nat.sub_self]; exact h0, KeptC.refl _ _⟩
  case round =>
    obtain ⟨k, hk, rfl, hJs, hK⟩ := hrel
    rcases k with _ | m
    · have e0 : (((0 : Nat) : Int) - 1) = -1 := by omega
      rw [e0]
      rw [List.take_of_length_le (by simp)] at hJs
      have HJ := Lib.hid hJs
      clear hJs
      gi_wp2
      go_end0
      exact ⟨⟨_, rfl⟩, .inl ⟨_, rfl, HJ.out⟩⟩
    · have hlt : m < ps.length := by omega
      have e0 : (((m + 1 : Nat) : Int) - 1) = (m : Int) := by omega
      rw [e0]
      have hBw := hwW.trans hK.1
      obtain ⟨ad, rfl, hadb, d0, d1, d2⟩ := (hp.on hBw).at hlt
      have hBr := hK.2 _ _ _ _ hBs
      have hcb : wr.cell? ⟨Bs, 0, none⟩ = some (.slice (some ad) ps.length cap) := blk_cell hBr 0
      have b0 : (0 : Int) ≤ (m : Int) := by omega
      have b1 : (m : Int) < (ps.length : Int) := by omega
      have hw1 := wrap_in (n := (m : Int) - 1) (by omega) (by omega)
      obtain ⟨fn, tmps, assign, body, hy, hR⟩ := hY _ ⟨m, hlt⟩ wr hJs (by rw [List.length_take, List.length_reverse, List.length_finRange]; omega)
      rw [← take_prev hlt] at hR
      unfold encB pvV at hy
      dsimp only at hy
      have HK := Lib.hid hK
      have HM := Lib.hid hlt
      clear hJs hK hp hwW hBw
      gi_wp2
      refine hR.mono ?_
      rintro e' W3 (⟨rfl, hJ3, hk3⟩ | ⟨rfl, hJx3⟩)
      · have HJ3 := Lib.hid hJ3
        have HK3 := Lib.hid hk3
        clear hy hR hJ3 hk3
        gi_wp2
        go_roundw
        case rel => exact ⟨m, by have := HM.out; omega, by go_num, HJ3.out, HK.out.trans HK3.out⟩
        case measure => simp [intOf]
      · clear hy hR
        gi_wp2
        refine bodyPost_ret (results_none rfl _ _ _) rfl ?_
        exact ⟨⟨_, rfl⟩, .inr ⟨_, hJx3⟩⟩
set_option maxHeartbeats 1000000 in
theorem back_in (F : Fence) (n : Nat) (hf : F.fn 98) (hro : F.round = none) (A : Option Addr) (len cap : Nat) (w : World) :
    CallsIn F n Tryz.prog 98 #[.slice A len cap] w fun e w' => e = .returned (.func (.func 130) #[] #[.pointer (some ⟨w.heap.size, 0, none⟩)]) ∧ w' = w.alloc (.cells #[.slice A len cap] 24) := by
  refine callsIn_of_wp Tryz.func98 rfl hf ?_ hro
  simp only [Tryz.ntmps98, List.size_toArray, List.length_cons, List.length_nil, Nat.reduceAdd, Nat.reduceSub, Array.replicate_succ, Array.replicate_zero, List.push_toArray, List.append_toArray, List.nil_append, List.cons_append]
  gi_wp2
  go_ret
  exact ⟨rfl, rfl⟩
theorem back_stops (F : Fence) (n : Nat) (hf : F.fn 130) (hro : F.round = none) (hn : 1 ≤ n) (Bs : Nat) (ps : List PV) (A : Option Addr) (cap : Nat) (hlen : ps.length ≤ 1000000) (w w1 : World)
    (hp : Prs w A ps) (hw : Below w.heap.size w w1) (hBs : w1.heap[Bs]? = some (Obj.cells #[.slice A ps.length cap] 24 (0, 0))) :
    SeqStopsK F n Tryz.prog 130 #[.pointer (some ⟨Bs, 0, none⟩)] (encB ps) (KeptC w.heap.size) (fun ys => ys = (List.finRange ps.length).reverse) (fun _ => True) ps.length w1 := fun l J Jx W hW hJ _ hY h0 =>
  (back1_in F n hf hro hn l Bs w.heap.size ps A cap hlen J Jx w W hJ hY rfl hp (hw.trans (hW.mono hw.size)) ((hW.block _ (blk_lt hBs)).trans hBs) h0).mono fun _ _ ⟨h1, h2⟩ => ⟨h1, h2.imp id (fun ⟨pre, h⟩ => ⟨pre, trivial, h⟩)⟩
/-- The last of each number, by walking a list. -/
def lastV (l : List PV) (id : Int) : Option PV := l.reverse.find? fun x => x.par.id == id
theorem lastV_next {l : List PV} {x : PV} : (fun id => if id = x.par.id then some x else lastV l id) = lastV (l ++ [x]) := by
  funext id
  unfold lastV
  rw [List.reverse_append, List.reverse_cons, List.reverse_nil, List.nil_append, List.singleton_append, List.find?_cons]
  by_cases e : id = x.par.id
  · rw [if_pos e]; simp [e]
  · rw [if_neg e]
    have : (x.par.id == id) = false := by simp; exact fun h => e h.symm
    rw [this]
def fstV (l : List PV) (id : Int) : Option PV := l.find? fun x => x.par.id == id
theorem lastV_rev (l : List PV) : lastV l.reverse = fstV l := by
  funext id
  unfold lastV fstV
  rw [List.reverse_reverse]
theorem back_all (ps : List PV) : ((List.finRange ps.length).reverse.map fun x => ps[x.1]) = ps.reverse := by
  rw [List.map_reverse]
  congr 1
  apply List.ext_getElem
  · simp
  · intro i h1 h2
    simp
theorem fstV_firstQ (l : List PV) (id : Int) : (fstV l id).map PV.par = firstQ (l.map PV.par) id := by
  unfold fstV firstQ
  rw [List.find?_map]
  rfl
/-- The map that grows. -/
def FstOwn (w : World) (bm : Nat) (l : List PV) (W : World) : Prop := ∃ L, MapIs W bm iv pvV In64 L ∧ IsFn L (lastV l) ∧ L.length ≤ l.length ∧ W.heap[bm + 1]? = some (Obj.cells #[.map (some bm)] 97 (0, 0)) ∧ Below w.heap.size w W
theorem FstOwn.own {β : Type} {w : World} {bm B : Nat} {f : β → List PV} (h1 : w.heap.size ≤ B) (h2 : bm + 1 < B) : OwnFrom B (fun s W => FstOwn w bm (f s) W) := fun s X Y row ⟨L, hm, hf, hl, hb, hB⟩ hg hr =>
  ⟨L, hm.kept hg (fun e => by obtain ⟨h3, _⟩ := hr _ e.symm; omega), hf, hl, (hg.block _ (blk_lt hb) (fun e => by obtain ⟨h3, _⟩ := hr _ e.symm; omega)).trans hb, hB.grown hg hB.size (fun k e => by obtain ⟨h3, _⟩ := hr _ e; omega)⟩
set_option maxRecDepth 100000 in
set_option maxHeartbeats 4000000 in
theorem firsts_in (n : Nat) (hn : 4 ≤ n) (ps : List PV) (A : Option Addr) (cap : Nat) (hlen : ps.length ≤ 1000000) (hid : ∀ x ∈ ps, In64 x.par.id) (w : World) (hp : Prs w A ps) :
    CallsIn Fence.wide n Tryz.prog 60 #[.slice A ps.length cap] w fun e w' => ∃ b L, e = .returned (.map (some b)) ∧ MapIs w' b iv pvV In64 L ∧ IsFn L (fstV ps) ∧ L.length ≤ ps.length ∧ Below w.heap.size w w' ∧ w.heap.size ≤ b := by
  have h1 : 1 ≤ n := by omega
  have hmm := @run_makeMap Tryz.prog
  refine callsIn_of_wp_marks Tryz.func60 rfl trivial ?_ rfl
  simp only [Tryz.ntmps60, List.size_toArray, List.length_cons, List.length_nil, Nat.reduceAdd, Nat.reduceSub, Array.replicate_succ, Array.replicate_zero, List.push_toArray, List.append_toArray, List.nil_append, List.cons_append]
  gi_wp2_with (refine ⟨trivial, ?_⟩; gi_at_call 98; refine (back_in Fence.wide _ trivial rfl _ _ _ _).mono ?_; rintro e w' ⟨rfl, rfl⟩)
  clear hmm
  have hm1 : MapIs (w.alloc (.map #[] 0)) w.heap.size iv pvV In64 ([] : List (Int × PV)) := MapIs.made w
  have hF0 : FstOwn w w.heap.size [] (((w.alloc (.map #[] 0)).alloc (Obj.cells #[.map (some w.heap.size)] 97)).alloc (Obj.cells #[.slice A ps.length cap] 24)) :=
    ⟨[], (hm1.alloc _).alloc _, isFn_nil, Nat.le_refl _, by
      have := heap_alloc_new (w.alloc (.map #[] 0)) (Obj.cells #[.map (some w.heap.size)] 97 (0, 0))
      rw [World.size_alloc] at this
      exact (Below.heap_alloc _ _ _ (by simp)).trans this, (((Below.refl _ w).alloc (Nat.le_refl _) _).alloc (by simp) _).alloc (by simp; omega) _⟩
  have hbx : (((w.alloc (.map #[] 0)).alloc (Obj.cells #[.map (some w.heap.size)] 97)).alloc (Obj.cells #[.slice A ps.length cap] 24)).heap[w.heap.size + 2]? = some (Obj.cells #[.slice A ps.length cap] 24 (0, 0)) := by
    have := heap_alloc_new ((w.alloc (.map #[] 0)).alloc (Obj.cells #[.map (some w.heap.size)] 97)) (Obj.cells #[.slice A ps.length cap] 24 (0, 0))
    simp only [World.size_alloc] at this
    exact this
  have hsz : (((w.alloc (.map #[] 0)).alloc (Obj.cells #[.map (some w.heap.size)] 97)).alloc (Obj.cells #[.slice A ps.length cap] 24)).heap.size = w.heap.size + 3 := by simp
  (try simp only [World.size_alloc])
  generalize (((w.alloc (.map #[] 0)).alloc (Obj.cells #[.map (some w.heap.size)] 97)).alloc (Obj.cells #[.slice A ps.length cap] 24)) = W0 at hF0 hbx hsz ⊢
  have hB0 : Below w.heap.size w W0 := hF0.choose_spec.2.2.2.2
  refine wpIn_rangeFunc_ownH rfl h1 (gf := 130) (lb := #[.pointer (some ⟨w.heap.size + 2, 0, none⟩)]) rfl trivial (enters_of Tryz.func130 (by kernel_rfl) rfl)
    (back_stops Fence.wide (n - 1) trivial rfl (by omega) (w.heap.size + 2) ps A cap hlen w W0 hp hB0 hbx) KeptC.trans (KeptC.put (by omega)) (Below.refl _ _) (fun _ => rfl)
    (fun pre W => FstOwn w w.heap.size (pre.map fun x => ps[x.1]) W)
    (fun _ _ _ => False)
    (FstOwn.own (w := w) (bm := w.heap.size) (B := W0.heap.size) (f := fun pre : List (Fin ps.length) => pre.map fun x => ps[x.1]) (by omega) (by omega))
    (fun _ _ _ _ _ hs _ _ => hs)
    hF0
    (fun x a' W => ∃ Bx, W.heap[Bx]? = some (Obj.cells #[.int .i64 ps[x.1].par.id, .slice ps[x.1].A ps[x.1].par.ring.length ps[x.1].cap, .string ps[x.1].par.own] 34 (0, 0)) ∧ a' = { tmps := #[.slice A ps.length cap, undef, .map none, .pointer (some ⟨w.heap.size + 1, 0, none⟩), undef, .pointer (some ⟨Bx, 0, none⟩), .map (some w.heap.size), .slice A ps.length cap, .func (.func 130) #[] #[.pointer (some ⟨w.heap.size + 2, 0, none⟩)], .int .i64 (x.1 : Int), pvV ps[x.1], undef, undef, undef, undef, undef], defers := [] })
    (fun x a' _ X Y row hs hg hr => by
      obtain ⟨Bx, h1, h2⟩ := hs
      exact ⟨Bx, (hg.block _ (blk_lt h1) (fun e => by
        obtain ⟨-, o, ho, hc⟩ := hr _ e.symm
        rw [h1] at ho; cases ho; cases hc)).trans h1, h2⟩)
    ?assign ?body ?done ?stop
  case assign =>
    rintro l pre x W K hG hK
    unfold encB pvV
    gi_wp2
    exact hK _ _ (KeepsFrom.of_below ((Below.refl _ W).alloc (Nat.le_refl _) _)) (KeptC.of_below ((Below.refl _ W).alloc (Nat.le_refl _) _) hG.choose_spec.2.2.2.2.size) (by
      obtain ⟨L, q1, q2, q3, q4, q5⟩ := hG
      exact ⟨L, q1.alloc _, q2, q3, blk_alloc q4 _, q5.alloc q5.size _⟩) ⟨W.heap.size, heap_alloc_new _ _, rfl⟩
  case body =>
    rintro l pre x a' W hl ⟨r, hr'⟩ ⟨L, q1, q2, q3, q4, q5⟩ ⟨Bx, hX, rfl⟩ hlt2
    have x0 := blk_cell hX 0
    have x1 := blk_cell hX 1
    have x2 := blk_cell hX 2
    simp only [List.getElem?_toArray, List.getElem?_cons_zero, List.getElem?_cons_succ] at x0 x1 x2
    have x3 := blk_cell q4 0
    simp only [List.getElem?_toArray, List.getElem?_cons_zero] at x3
    have HI := Lib.hid (hid ps[x.1] (List.getElem_mem _))
    have HM := Lib.hid q1
    have HF := Lib.hid q2
    have HL := Lib.hid q3
    have HNC : Hid (∀ cs t fz, W.heap[w.heap.size]? = some (Obj.cells cs t fz) → False) := fun cs t fz h => by
      obtain ⟨es, c, hb, -⟩ := q1
      rw [hb] at h; cases h
    clear q1 q2 q3
    gi_wp2_with (gi_at_mapUpdate; go_must (refine wpIn_put rfl _ _ _ 97 rfl 34 keyI Tryz.underlying97 w.heap.size rfl HM.out HF.out (y := ps[x.1]) HI.out rfl rfl ?_; intro W9 L9 hm9 hf9 hl9 hg9 hs9; have HM9 := Lib.hid hm9; have HF9 := Lib.hid hf9; have HL9 := Lib.hid hl9; have HG9 := Lib.hid hg9; have HS9 := Lib.hid hs9; clear hm9 hf9 hl9 hg9 hs9))
    have hg9 := HG9.out
    have hlw : w.heap.size < W.heap.size := by have := (Array.getElem?_eq_some_iff.1 hr').1; omega
    refine ⟨⟨hg9.size, fun k o hb hk _ => (hg9.block k ((Array.getElem?_eq_some_iff.1 hk).1) (fun e => by have := Option.some.inj e; omega)).trans hk⟩, ⟨(Below.refl w.heap.size W).grown hg9 (Nat.le_of_lt hlw) (fun k e => by cases e; exact Nat.le_refl _), fun k cs t fz hk => (hg9.block k (blk_lt hk) (fun e => by cases e; exact HNC.out _ _ _ hk)).trans hk⟩, L9, HM9.out, ?_, ?_, ?_, ?_⟩
    · rw [List.map_append, List.map_cons, List.map_nil, ← lastV_next]; exact HF9.out
    · have h1 := HL9.out
      have h2 := HL.out
      rw [List.map_append, List.length_append, List.map_cons, List.map_nil, List.length_cons, List.length_nil]
      omega
    · exact (hg9.block _ (blk_lt q4) (fun e => by have := Option.some.inj e; omega)).trans q4
    · exact q5.grown hg9 q5.size (fun k e => by cases e; exact Nat.le_refl _)
  case done =>
    rintro D ys W hD rfl ⟨L, q1, q2, q3, q4, q5⟩ hK
    rw [back_all] at q2 q3
    rw [lastV_rev] at q2
    have x3 := blk_cell q4 0
    simp only [List.getElem?_toArray, List.getElem?_cons_zero] at x3
    gi_wp2
    refine ⟨by simp, .inl ⟨_, _, rfl, run_takeDeferred hK, ?_⟩⟩
    have hne : w.heap.size ≠ D := by omega
    exact ⟨_, results_tmp rfl _ _ _, _, L, rfl, q1.at ((grownBy_putObj' W D (.deferred none)).block _ q1.lt (fun e => hne (Option.some.inj e))), q2, by rw [List.length_reverse] at q3; exact q3, Below.trans q5 (belowK_b (w := w) (Nat.le_refl _) W D _ _ (by omega) hK rfl rfl), Nat.le_refl _⟩
  case stop =>
    rintro D c pre W _ _ h _
    exact h.elim
end Go.Proofs.YtbcmnhbpomjinaaGreat
