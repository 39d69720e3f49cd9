/- Layer sector, memory: what else stays as it is, the sectors' bytes, the program's disk, the document's disk. -/
import Derived.Test.YtfjiceoagenfnaaDoorSBase
import Derived.Test.YtfjiceoagenfnaaDoorSPln
namespace Go.Proofs.YtfjiceoagenfnaaDoor
open Go.RowKit Go.Lib Go.ChangeMaps Go.MapKept

theorem add_off (b k : Nat) : (⟨b, 0, none⟩ : Addr).add k = ⟨b, k, none⟩ := by
  unfold Addr.add
  split <;> simp_all
theorem wrap_in {n : Int} (h1 : -9223372036854775808 ≤ n) (h2 : n ≤ 9223372036854775807) : IntKind.i64.wrap n = n := by rw [IntKind.wrap_i64]; omega
def In64 (n : Int) : Prop := -9223372036854775808 ≤ n ∧ n ≤ 9223372036854775807
def iv (n : Int) : Value := .int .i64 n
theorem wf64 {n : Int} (h : In64 n) : (Lit.int .i64 n).wf = true := WalkArith.wf_i64 (by unfold In64 at h; omega)
theorem keyI : KeyK 3 iv In64 where
  K := Go.Maps.int_keyed Tryd.underlying3
  lit a ha := by
    have w1 := wf64 ha
    refine ⟨_, by
      unfold keyOf
      rw [Tryd.underlying3]
      simp [mapKey, iv, w1, Tryd.underlying3]
      rfl⟩
  inj a b h := by
    unfold iv at h
    simpa using h
/-- Of all that was there only F's blocks may have turned. -/
def Fr (F : Nat → Prop) (W W' : World) : Prop := Below 0 W W' ∧ ∀ k, k < W.heap.size → ¬ F k → W'.heap[k]? = W.heap[k]?
theorem Fr.refl (F : Nat → Prop) (W : World) : Fr F W W := ⟨Below.refl _ _, fun _ _ _ => rfl⟩
theorem Fr.trans {F G : Nat → Prop} {W W1 W2 : World} (h : Fr F W W1) (k : Fr G W1 W2) (hg : ∀ k, k < W.heap.size → G k → F k) : Fr F W W2 :=
  ⟨h.1.trans k.1, fun j hj hn => (k.2 j (Nat.lt_of_lt_of_le hj h.1.size) (fun e => hn (hg j hj e))).trans (h.2 j hj hn)⟩
theorem Fr.mono {F G : Nat → Prop} {W W' : World} (h : Fr F W W') (hg : ∀ k, k < W.heap.size → F k → G k) : Fr G W W' := ⟨h.1, fun j hj hn => h.2 j hj (fun e => hn (hg j hj e))⟩
theorem Fr.of {F : Nat → Prop} {W W' : World} (h : Below W.heap.size W W') : Fr F W W' := ⟨h.mono (Nat.zero_le _), fun j hj _ => h.block j hj⟩
theorem Fr.grew {F : Nat → Prop} {W W' : World} {r : Option Nat} (h : W.grownBy W' r) (hr : ∀ k, r = some k → F k) : Fr F W W' :=
  ⟨(Below.refl 0 W).grown h (Nat.zero_le _) (fun _ _ => Nat.zero_le _), fun j hj hn => h.block j hj (fun e => hn (hr j e.symm))⟩
theorem Fr.set {F : Nat → Prop} {W : World} {g i : Nat} {v : Value} (hg : F g) : Fr F W (W.setCell ⟨g, i, none⟩ v) :=
  Fr.grew (grew_set (World.grownBy.refl W (some g)) i v) (fun k e => by cases e; exact hg)
theorem Fr.below {F : Nat → Prop} {B : Nat} {w W W' : World} (h : Fr F W W') (hb : Below B w W) (hB : B ≤ W.heap.size) (hF : ∀ k, F k → B ≤ k) : Below B w W' :=
  ⟨h.1.os.trans hb.os, h.1.tape.trans hb.tape, h.1.output.trans hb.output, Nat.le_trans hb.size h.1.size, fun k hk => (h.2 k (Nat.lt_of_lt_of_le hk hB) (fun e => by have := hF k e; omega)).trans (hb.block k hk)⟩
theorem Fr.cell {F : Nat → Prop} {W W' : World} (h : Fr F W W') {p : Addr} (hp : p.block < W.heap.size) (hn : ¬ F p.block) : W'.cell? p = W.cell? p := World.cell?_of_block (w := W) (h.2 p.block hp hn)
/-- What a piece of memory takes: its blocks are there; what it may take more is new. -/
def Ter (W : World) (T : Nat → Prop) : Prop := ∀ k, T k → k < W.heap.size
def Ext (W : World) (T T' : Nat → Prop) : Prop := (∀ k, T k → T' k) ∧ ∀ k, T' k → T k ∨ W.heap.size ≤ k
theorem Ext.refl (W : World) (T : Nat → Prop) : Ext W T T := ⟨fun _ h => h, fun _ h => .inl h⟩
theorem Ext.trans {W W1 : World} {T T1 T2 : Nat → Prop} (h : Ext W T T1) (k : Ext W1 T1 T2) (hs : W.heap.size ≤ W1.heap.size) : Ext W T T2 :=
  ⟨fun j e => k.1 j (h.1 j e), fun j e => by
    rcases k.2 j e with h1 | h1
    · exact h.2 j h1
    · exact .inr (by omega)⟩
def Apart (T U : Nat → Prop) : Prop := ∀ k, T k → ¬ U k
theorem Apart.symm {T U : Nat → Prop} (h : Apart T U) : Apart U T := fun k hu ht => h k ht hu
theorem Apart.ext {W : World} {T T' U : Nat → Prop} (h : Apart T U) (e : Ext W T T') (hu : Ter W U) : Apart T' U := fun k ht hk => by
  rcases e.2 k ht with h1 | h1
  · exact h k h1 hk
  · have := hu k hk; omega
theorem Ter.on {W W' : World} {T : Nat → Prop} (h : Ter W T) (hs : W.heap.size ≤ W'.heap.size) : Ter W' T := fun k hk => Nat.lt_of_lt_of_le (h k hk) hs

/-- A sector's bytes: where they lie, how much room, what they are. -/
structure SV where
  A : Option Addr
  cap : Nat
  bs : List UInt8
def SV.v (x : SV) : Value := .slice x.A x.bs.length x.cap
def noSv : SV := ⟨none, 0, []⟩
theorem zeroSv (w : World) : (zeroValue 34).run Tryd.prog w = .ok noSv.v w := by kernel_rfl
/-- A block of bytes. -/
def ByteB (W : World) (k : Nat) : Prop := ∃ cs fr, W.heap[k]? = some (.cells cs 5 fr)
def SvAt (W : World) (T : Nat → Prop) (x : SV) : Prop := BytesAt W x.A x.bs.length x.bs ∧ x.bs.length = 512 ∧ x.A ≠ none ∧ ∀ ad, x.A = some ad → T ad.block ∧ ByteB W ad.block
theorem SvAt.on {W W' : World} {T T' : Nat → Prop} {x : SV} (h : SvAt W T x) (hT : ∀ k, T k → T' k) (hs : ∀ k, T k → ByteB W k → W'.heap[k]? = W.heap[k]?) : SvAt W' T' x :=
  ⟨fun h0 => by
    obtain ⟨b, o, e, hc⟩ := h.1 h0
    have ht := h.2.2.2 _ e
    exact ⟨b, o, e, fun i hi => by rw [World.cell?_of_block (w := W) (a := ⟨b, o + i, none⟩) (hs b ht.1 ht.2)]; exact hc i hi⟩, h.2.1, h.2.2.1, fun ad e => by
    obtain ⟨h1, cs, fr, h2⟩ := h.2.2.2 ad e
    exact ⟨hT _ h1, cs, fr, (hs _ h1 ⟨cs, fr, h2⟩).trans h2⟩⟩
/-- A write in memory: of which sector, and its bytes. -/
abbrev WV := Nat × SV
def encW (x : WV) : List Value := [.int .i64 (x.1 : Nat), x.2.v]
def WV.w (x : WV) : Wr := (x.1, x.2.bs)
theorem kindW : Kind 100 encW 2 32 := Kind.mk' (z := .agg #[.int .i64 0, .slice none 0 0]) (fun _ => rfl) (fun a u hu => by
  simp only [encW, List.mem_cons, List.not_mem_nil, or_false] at hu
  rcases hu with rfl | rfl <;> rfl) (by decide) (by kernel_rfl) rfl
/-- A list of writes in memory: a row of the holder's own. -/
structure LogAt (W : World) (T : Nat → Prop) (v : Value) (l : List WV) : Prop where
  row : W.ownsRow 0 100 2 v l.length (l.flatMap encW)
  ter : ∀ k, v.ownBlock = some k → T k
  sv : ∀ x ∈ l, SvAt W T x.2
theorem LogAt.on {W W' : World} {T T' : Nat → Prop} {v : Value} {l : List WV} (h : LogAt W T v l) (hT : ∀ k, T k → T' k) (hs : ∀ k, T k → W'.heap[k]? = W.heap[k]?) : LogAt W' T' v l where
  row := by
    refine ⟨h.row.1, ?_⟩
    rcases h.row.2 with h0 | ⟨g, cap, cur, rfl, hg, hh, hrest⟩
    · exact .inl h0
    · exact .inr ⟨g, cap, cur, rfl, hg, (hs g (h.ter g rfl)).trans hh, hrest⟩
  ter k e := hT k (h.ter k e)
  sv x hx := (h.sv x hx).on hT (fun k h _ => hs k h)
theorem LogAt.fr {F : Nat → Prop} {W W' : World} {T : Nat → Prop} {v : Value} {l : List WV} (h : LogAt W T v l) (ht : Ter W T) (hf : Fr F W W') (hb : ∀ k, F k → ¬ ByteB W k) (hr : ∀ k, v.ownBlock = some k → ¬ F k) : LogAt W' T v l where
  row := by
    refine ⟨h.row.1, ?_⟩
    rcases h.row.2 with h0 | ⟨g, cap, cur, rfl, hg, hh, hrest⟩
    · exact .inl h0
    · exact .inr ⟨g, cap, cur, rfl, hg, (hf.2 g (blk_lt hh) (hr g rfl)).trans hh, hrest⟩
  ter := h.ter
  sv x hx := (h.sv x hx).on (fun _ h => h) (fun k h1 h2 => hf.2 k (ht k h1) (fun e => hb k e h2))
/-- The sectors that a map holds: those that were written, as they were written last, the others not at all. -/
def Holds (S : List (Int × SV)) (f : Nat → Option (List UInt8)) : Prop := (∀ p ∈ S, ∃ i : Nat, p.1 = i ∧ f i = some p.2.bs) ∧ ∀ i : Nat, (i : Int) ∉ S.map Prod.fst → f i = none
theorem Holds.nil {f : Nat → Option (List UInt8)} (h : ∀ i, f i = none) : Holds [] f := ⟨fun _ h => (by cases h), fun i _ => h i⟩
theorem Holds.put {S S' : List (Int × SV)} {f f' : Nat → Option (List UInt8)} (h : Holds S f) {i : Nat} {x : SV} (hm : ∀ p, p ∈ S' ↔ p = ((i : Int), x) ∨ (p ∈ S ∧ p.1 ≠ (i : Int))) (hf : ∀ j, f' j = if i = j then some x.bs else f j) : Holds S' f' := by
  refine ⟨fun p hp => ?_, fun j hj => ?_⟩
  · rcases (hm p).1 hp with rfl | ⟨hp, hne⟩
    · exact ⟨i, rfl, by rw [hf, if_pos rfl]⟩
    · obtain ⟨j, e, hh⟩ := h.1 p hp
      refine ⟨j, e, ?_⟩
      rw [hf, if_neg (fun e2 => hne (by rw [e, e2]))]
      exact hh
  · have hne : i ≠ j := fun e => hj (List.mem_map.2 ⟨((i : Int), x), (hm _).2 (.inl rfl), by rw [e]⟩)
    rw [hf, if_neg hne]
    refine h.2 j fun hm2 => hj ?_
    obtain ⟨p, hp, e⟩ := List.mem_map.1 hm2
    exact List.mem_map.2 ⟨p, (hm p).2 (.inr ⟨hp, fun e2 => hne (by omega)⟩), e⟩
/-- A map of sectors in memory. -/
structure SMap (W : World) (T : Nat → Prop) (m : Nat) (S : List (Int × SV)) : Prop where
  map : MapIs W m iv SV.v In64 S
  ter : T m
  sv : ∀ p ∈ S, SvAt W T p.2
theorem SMap.on {W W' : World} {T T' : Nat → Prop} {m : Nat} {S : List (Int × SV)} (h : SMap W T m S) (hT : ∀ k, T k → T' k) (hs : ∀ k, T k → W'.heap[k]? = W.heap[k]?) : SMap W' T' m S where
  map := h.map.at (hs m h.ter)
  ter := hT m h.ter
  sv p hp := (h.sv p hp).on hT (fun k h _ => hs k h)
theorem SMap.fr {F : Nat → Prop} {W W' : World} {T : Nat → Prop} {m : Nat} {S : List (Int × SV)} (h : SMap W T m S) (ht : Ter W T) (hf : Fr F W W') (hb : ∀ k, F k → ¬ ByteB W k) (hm : ¬ F m) : SMap W' T m S where
  map := h.map.at (hf.2 m h.map.lt hm)
  ter := h.ter
  sv p hp := (h.sv p hp).on (fun _ h => h) (fun k h1 h2 => hf.2 k (ht k h1) (fun e => hb k e h2))
/-- The program's disk in memory. -/
structure DAt (W : World) (T : Nat → Prop) (st : DS) (g ms ml : Nat) (v : Value) (S L : List (Int × SV)) (U : List WV) : Prop where
  ok : st.ok
  ter : Ter W T
  here : T g
  blk : W.heap[g]? = some (.cells #[.bool st.out, .int .i64 (st.left : Nat), .int .i64 (st.sz : Nat), .map (some ms), .map (some ml), v] 87 (0, 0))
  ne : ms ≠ ml
  ms : SMap W T ms S
  ml : SMap W T ml L
  row : LogAt W T v U
  un : U.map WV.w = st.un
  sure : Holds S (lastW st.sure)
  late : Holds L (lastW st.un)
theorem DAt.on {W W' : World} {T T' : Nat → Prop} {st : DS} {g ms ml : Nat} {v : Value} {S L : List (Int × SV)} {U : List WV} (h : DAt W T st g ms ml v S L U) (hT : ∀ k, T k → T' k) (hT' : Ter W' T') (hs : ∀ k, T k → W'.heap[k]? = W.heap[k]?) : DAt W' T' st g ms ml v S L U where
  ok := h.ok
  ter := hT'
  here := hT g h.here
  blk := (hs g h.here).trans h.blk
  ne := h.ne
  ms := h.ms.on hT hs
  ml := h.ml.on hT hs
  row := h.row.on hT hs
  un := h.un
  sure := h.sure
  late := h.late
def Dk (W : World) (T : Nat → Prop) (st : DS) (g : Nat) : Prop := ∃ ms ml v S L U, DAt W T st g ms ml v S L U
theorem Dk.fr {W W' : World} {T F : Nat → Prop} {st : DS} {g : Nat} (h : Dk W T st g) (hf : Fr F W W') (ha : Apart T F) : Dk W' T st g := by
  obtain ⟨ms, ml, v, S, L, U, h⟩ := h
  exact ⟨ms, ml, v, S, L, U, h.on (fun _ h => h) (h.ter.on hf.1.size) (fun k hk => hf.2 k (h.ter k hk) (ha k hk))⟩
theorem Dk.ter {W : World} {T : Nat → Prop} {st : DS} {g : Nat} (h : Dk W T st g) : Ter W T := by
  obtain ⟨ms, ml, v, S, L, U, h⟩ := h
  exact h.ter
theorem Dk.ok {W : World} {T : Nat → Prop} {st : DS} {g : Nat} (h : Dk W T st g) : st.ok := by
  obtain ⟨ms, ml, v, S, L, U, h⟩ := h
  exact h.ok
/-- No two of the disk's blocks are one. -/
theorem no_byte {W : World} {k : Nat} {cs : Array Value} {t : TypeId} {fr : Nat × Nat} (h : W.heap[k]? = some (.cells cs t fr)) (hne : t ≠ 5) : ¬ ByteB W k := fun ⟨cs', fr', h'⟩ => by
  rw [h] at h'
  injection h' with h'
  injection h' with _ h'
  exact hne h'
theorem map_noByte {α β : Type} {W : World} {b : Nat} {ek : α → Value} {ev : β → Value} {Ok : α → Prop} {l : List (α × β)} (h : MapIs W b ek ev Ok l) : ¬ ByteB W b := fun ⟨cs, fr, h'⟩ => by
  obtain ⟨es, c, hb, -⟩ := h
  rw [hb] at h'; cases h'
theorem map_cells {α β : Type} {W : World} {b : Nat} {ek : α → Value} {ev : β → Value} {Ok : α → Prop} {l : List (α × β)} (h : MapIs W b ek ev Ok l) {k : Nat} {cs : Array Value} {t : TypeId} {fr : Nat × Nat} (hk : W.heap[k]? = some (.cells cs t fr)) : b ≠ k := fun e => by
  obtain ⟨es, c, hb, -⟩ := h
  rw [e, hk] at hb; cases hb
theorem LogAt.shape {W : World} {T : Nat → Prop} {v : Value} {l : List WV} (h : LogAt W T v l) : ∃ A c, v = .slice A l.length c := by
  rcases h.row.2 with ⟨rfl, h0⟩ | ⟨g, cap, cur, rfl, -⟩
  · exact ⟨none, 0, by rw [h0]⟩
  · exact ⟨_, _, rfl⟩
theorem LogAt.blk {W : World} {T : Nat → Prop} {v : Value} {l : List WV} (h : LogAt W T v l) {k : Nat} (hk : v.ownBlock = some k) : ∃ cur, W.heap[k]? = some (.cells cur 100 (0, 0)) := by
  rcases h.row.2 with ⟨rfl, _⟩ | ⟨g, cap, cur, rfl, hg, hh, hrest⟩
  · cases hk
  · cases hk; exact ⟨cur, hh⟩
theorem LogAt.ne {W : World} {T : Nat → Prop} {v : Value} {l : List WV} (h : LogAt W T v l) {k j : Nat} (hk : v.ownBlock = some k) {cs : Array Value} {t : TypeId} {fr : Nat × Nat} (hj : W.heap[j]? = some (.cells cs t fr)) (hne : t ≠ 100) : k ≠ j := fun e => by
  obtain ⟨cur, hh⟩ := h.blk hk
  rw [e, hj] at hh
  injection hh with hh
  injection hh with _ hh
  exact hne hh
theorem LogAt.noByte {W : World} {T : Nat → Prop} {v : Value} {l : List WV} (h : LogAt W T v l) {k : Nat} (hk : v.ownBlock = some k) : ¬ ByteB W k := by
  obtain ⟨cur, hh⟩ := h.blk hk
  exact no_byte hh (by decide)
theorem LogAt.neMap {α β : Type} {W : World} {T : Nat → Prop} {v : Value} {l : List WV} (h : LogAt W T v l) {k b : Nat} (hk : v.ownBlock = some k) {ek : α → Value} {ev : β → Value} {Ok : α → Prop} {m : List (α × β)} (hm : MapIs W b ek ev Ok m) : k ≠ b := fun e => by
  obtain ⟨cur, hh⟩ := h.blk hk
  exact map_cells hm hh e.symm
/-- clear. -/
theorem MapIs.cleared {α β : Type} {T e t : TypeId} {ek : α → Value} {ev : β → Value} {Ok : α → Prop} {W : World} {b : Nat} {l : List (α × β)} (h : MapIs W b ek ev Ok l) (ht : Tryd.prog.underlying t = some (.map T e)) (ty : TypeId) :
    ∃ W', (Builtin.clear_ #[t] ty #[.map (some b)]).run Tryd.prog W = .ok (.tuple #[]) W' ∧ MapIs W' b ek ev Ok ([] : List (α × β)) ∧ W.grownBy W' (some b) ∧ W'.heap.size = W.heap.size := by
  obtain ⟨es, c, hb, hl, hs, hok⟩ := h
  refine ⟨setBlock W b (.map #[] c), ?_, ⟨#[], c, heap_setBlock_same hb _, rfl, stamped_empty c, fun _ h => by cases h⟩, ⟨rfl, rfl, rfl, by simp [setBlock], fun i _ hi => heap_setBlock_other hb _ (fun e => hi (by rw [e]))⟩, by simp [setBlock]⟩
  simp [Builtin.clear_, run_underlying ht, MapKept.run_getObj_map hb, MapKept.run_setObj_map _ hb, Result.andThen, setBlock]
end Go.Proofs.YtfjiceoagenfnaaDoor
