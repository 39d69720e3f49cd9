/- A whole list of points appended to a slice of the call's own; the given law package's copy of a ring. -/
import Derived.Test.YtjlnjjmomohpaaaGreatRefSide
import Derived.Laws.AppendOwnNone
namespace Go.Proofs.YtjlnjjmomohpaaaGreat
open Go.RowKit

theorem flatP_append : ∀ (ps qs : List (Int × Int)), flatP (ps ++ qs) = flatP ps ++ flatP qs
 |[], qs => rfl
 |p :: ps, qs => by simp only [List.cons_append, flatP, flatP_append ps qs]
theorem flatP_one : ∀ (ps : List (Int × Int)), ∀ u ∈ flatP ps, u.oneCell' = true
 |[], u, h => by cases h
 |p :: ps, u, h => by
  simp only [flatP, List.mem_cons] at h
  rcases h with rfl | rfl | h
  ·rfl
  ·rfl
  ·exact flatP_one ps u h
theorem flatP_cells {w : World} {B : Nat} {ad : Addr} {ps : List (Int × Int)} (hr : Pts w B (some ad) ps) : ∀ j u, (flatP ps)[j]? = some u → w.cell? (ad.add j) = some u := by
 intro j u hu
 have hlt : j < (flatP ps).length := (List.getElem?_eq_some_iff.1 hu).1
 rw [flatP_length] at hlt
 obtain ⟨ad', e, -, hc⟩ := hr (by omega)
 obtain rfl : ad = ad' := Option.some.inj e
 have hk : j / 2 < ps.length := by omega
 have hp : ps[j / 2]? = some ps[j / 2] := List.getElem?_eq_getElem hk
 obtain ⟨c0, c1⟩ := hc _ _ hp
 obtain ⟨g0, g1⟩ := flatP_get ps (j / 2)
 rw [hp] at g0 g1
 rcases Nat.mod_two_eq_zero_or_one j with hm | hm
 ·rw [show j / 2 * 2 = j by omega] at g0 c0
  rw [hu] at g0
  rw [c0]; exact g0.symm
 ·rw [show j / 2 * 2 + 1 = j by omega, hu] at g1
  have e1 : (ad.add (j / 2 * 2)).add 1 = ad.add j := by
   rw [Go.Deep.add_add, show j / 2 * 2 + 1 = j by omega]
  rw [e1] at c1
  rw [c1]; exact g1.symm
def NilOk (A : Option Addr) (cap : Nat) : Prop := A = none → cap = 0
theorem append_pts {w0 W : World} {v : Value} {ps : List (Int × Int)} (T : TypeId) (hT : Tryz.prog.underlying T = some (.slice 56)) (HR : Row w0 v ps W)
  (qs : List (Int × Int)) (A : Option Addr) (c : Nat) (hq : Pts W W.heap.size A qs) (hnil : NilOk A c) (hb : (ps.length + qs.length) * 16 ≤ 140737488355328)
  {ops : Array Oper} {rest : List Oper} {o : Oper} {a : Act} {Q : Exit → Act → World → Prop} (hgd : o.guard = none) (s x : Operand)
  (ho : o.op = .call { callee := .builtin .append, args := #[s, x], argTypes := #[T, T] })
  (hs : a.eval s = v) (hx : a.eval x = .slice A qs.length c)
  (h : ∀ v' w', Row w0 v' (ps ++ qs) w' → wpList Tryz.prog ops Q rest (a.put o.dst v') w') :
  wpList Tryz.prog ops Q (o :: rest) a W := by
 obtain ⟨i0, hi, hz0, hz1, hz2⟩ := info_parts infoP
 cases A with
 |none =>
  obtain rfl : qs = [] := by
   cases qs with
   |nil => rfl
   |cons p q => obtain ⟨_, e, _⟩ := hq (by simp); cases e
  obtain rfl := hnil rfl
  refine wpList_append_own_none hgd s x T ho w0.heap.size 56 i0 2 hT hi v ps.length (flatP ps) hs HR.2 hx ?_
  have := h v W (by rw [List.append_nil]; exact HR)
  exact this
 |some ad =>
  refine wpList_append_own _ hgd s x T ho w0.heap.size 56 i0 (.agg #[.int .i64 0, .int .i64 0]) 2 16 hT hi hz0 hz1 hz2 rfl (by decide) v ps.length (flatP ps) hs HR.2 ad qs.length c (flatP qs) hx (flatP_length qs) (flatP_cells hq) (flatP_one qs) (by unfold maxLen; omega) hb HR.1.size ?_
  intro v' w' hown hgrow _
  refine h v' w' ⟨grownB HR.1 (Nat.le_refl _) hgrow (fun k hk => (HR.2.lt k hk).1), ?_⟩
  rw [List.length_append, flatP_append]
  exact hown
theorem Row.made (w : World) (t : TypeId) (ht : t = 56) : Row w (.slice (some ⟨w.heap.size, 0, none⟩) 0 0) [] (w.alloc (Obj.cells #[] t (0, 0))) := by
 subst ht
 exact ⟨(Below.refl _ w).alloc (Nat.le_refl _) _, World.ownsRow_made w #[] 0 (Nat.le_refl _) (by unfold maxLen; omega) rfl⟩
theorem Row.nilOk {w0 W : World} {ps : List (Int × Int)} {v : Value} (h : Row w0 v ps W) : ∃ A cap, v = .slice A ps.length cap ∧ Pts W W.heap.size A ps ∧ NilOk A cap := by
 obtain ⟨A, cap, rfl, hp⟩ := h.pts
 refine ⟨A, cap, rfl, hp, fun e => ?_⟩
 subst e
 rcases h.2.2 with ⟨e, -⟩ | ⟨g, cap', cur, e, -⟩
 ·exact (Value.slice.inj e).2.2
 ·cases e

theorem Pts.drop {w : World} {B : Nat} {ad : Addr} {ps : List (Int × Int)} {k : Nat} (h : Pts w B (some ad) ps) (hk : k < ps.length) : Pts w B (some (ad.add (k * 2))) (ps.drop k) := by
 intro _
 obtain ⟨ad', e, hb, hc⟩ := h (by omega)
 obtain rfl := Option.some.inj e
 refine ⟨_, rfl, by rw [block_of_add]; exact hb, fun i p hp => ?_⟩
 rw [List.getElem?_drop] at hp
 obtain ⟨c0, c1⟩ := hc (k + i) p hp
 rw [Go.Deep.add_add, show k * 2 + i * 2 = (k + i) * 2 by omega]
 exact ⟨c0, c1⟩
theorem Pts.take {w : World} {B : Nat} {A : Option Addr} {ps : List (Int × Int)} (k : Nat) (h : Pts w B A ps) : Pts w B A (ps.take k) := by
 intro hl
 rw [List.length_take] at hl
 obtain ⟨ad, e, hb, hc⟩ := h (by omega)
 refine ⟨ad, e, hb, fun i p hp => hc i p ?_⟩
 by_cases hi : i < k
 ·rwa [List.getElem?_take_of_lt hi] at hp
 ·rw [List.getElem?_eq_none (by rw [List.length_take]; omega)] at hp; cases hp
end Go.Proofs.YtjlnjjmomohpaaaGreat

namespace Go.Proofs.YtjlnjjmomohpaaaGreat
open Go.RowKit

structure Kind {α : Type} (T : TypeId) (enc : α → List Value) (n bytes : Nat) : Prop where
 len : ∀ a, (enc a).length = n
 one : ∀ a, ∀ u ∈ enc a, u.oneCell' = true
 pos : 0 < n
 info : ∃ i z, Tryz.prog.info? T = some i ∧ i.zero = some z ∧ i.size = n ∧ i.bytes = bytes ∧ z.cells.size = n
section
variable {α : Type} {T : TypeId} {enc : α → List Value} {n bytes : Nat}
theorem Kind.mk' {z : Value} (hl : ∀ a, (enc a).length = n) (h1 : ∀ a, ∀ u ∈ enc a, u.oneCell' = true) (hp : 0 < n) (hi : (Tryz.prog.info? T).map (fun i => (i.zero, i.size, i.bytes)) = some (some z, n, bytes)) (hz : z.cells.size = n) : Kind T enc n bytes := by
 obtain ⟨i, h2, h3, h4, h5⟩ := info_parts hi
 exact ⟨hl, h1, hp, i, z, h2, h3, h4, h5, hz⟩
theorem flat_len (hk : ∀ a, (enc a).length = n) : ∀ l : List α, (l.flatMap enc).length = l.length * n
 |[] => by simp
 |a :: l => by rw [List.flatMap_cons, List.length_append, hk, flat_len hk l, List.length_cons, Nat.add_mul]; omega
theorem flat_get (hk : ∀ a, (enc a).length = n) : ∀ (l : List α) (k : Nat) (a : α) (i : Nat), l[k]? = some a → i < n → (l.flatMap enc)[k * n + i]? = (enc a)[i]?
 |[], k, a, i, h, _ => by simp at h
 |b :: l, 0, a, i, h, hi => by
  obtain rfl : b = a := by simpa using h
  rw [List.flatMap_cons, Nat.zero_mul, Nat.zero_add, List.getElem?_append_left (by rw [hk]; exact hi)]
 |b :: l, k + 1, a, i, h, hi => by
  rw [List.flatMap_cons, List.getElem?_append_right (by rw [hk, Nat.add_mul]; omega), hk, show (k + 1) * n + i - n = k * n + i by rw [Nat.add_mul]; omega]
  exact flat_get hk l k a i (by simpa using h) hi
theorem flat_one (hk : ∀ a, ∀ u ∈ enc a, u.oneCell' = true) (l : List α) : ∀ u ∈ l.flatMap enc, u.oneCell' = true := fun u hu => by
 obtain ⟨a, _, ha⟩ := List.mem_flatMap.1 hu
 exact hk a u ha
def Items (w : World) (B : Nat) (A : Option Addr) (enc : α → List Value) (l : List α) : Prop := l ≠ [] → ∃ ad, A = some ad ∧ ad.block < B ∧ ∀ j u, (l.flatMap enc)[j]? = some u → w.cell? (ad.add j) = some u
theorem Items.nil (w : World) (B : Nat) (A : Option Addr) (enc : α → List Value) : Items w B A enc [] := fun h => absurd rfl h
theorem Items.on {w w' : World} {A : Option Addr} {l : List α} (h : Items w w.heap.size A enc l) (hb : Below w.heap.size w w') : Items w' w'.heap.size A enc l := fun hl => by
 obtain ⟨ad, e, hlt, hc⟩ := h hl
 refine ⟨ad, e, Nat.lt_of_lt_of_le hlt hb.size, fun j u hu => ?_⟩
 rw [← hc j u hu]
 exact hb.cell (by rw [block_of_add]; exact hlt)
theorem Items.get {w : World} {B : Nat} {A : Option Addr} {l : List α} (hk : ∀ a, (enc a).length = n) (h : Items w B A enc l) {k : Nat} (hlt : k < l.length) : ∃ ad, A = some ad ∧ ad.block < B ∧ ∀ i u, i < n → (enc l[k])[i]? = some u → w.cell? (ad.add (k * n + i)) = some u := by
 obtain ⟨ad, e, hb, hc⟩ := h (fun e => by subst e; simp at hlt)
 exact ⟨ad, e, hb, fun i u hi hu => hc _ _ (by rw [flat_get hk l k l[k] i (List.getElem?_eq_getElem hlt) hi]; exact hu)⟩
theorem add_in (ad : Addr) (k : Nat) {i : Nat} (hi : 0 < i) : ad.add (k + i) = ⟨(ad.add k).block, (ad.add k).off + i, none⟩ := by
 rw [← Go.Deep.add_add]
 cases i with
 |zero => omega
 |succ i => simp [Addr.add]
theorem Items.at {w : World} {B : Nat} {A : Option Addr} {l : List α} (hk : ∀ a, (enc a).length = n) (h : Items w B A enc l) {k : Nat} (hlt : k < l.length) : ∃ ad, A = some ad ∧ ad.block < B ∧ (∀ u, 0 < n → (enc l[k])[0]? = some u → w.cell? (ad.add (k * n)) = some u) ∧ ∀ i u, 0 < i → i < n → (enc l[k])[i]? = some u → w.cell? ⟨(ad.add (k * n)).block, (ad.add (k * n)).off + i, none⟩ = some u := by
 obtain ⟨ad, e, hb, hc⟩ := h.get hk hlt
 exact ⟨ad, e, hb, fun u h0 hu => hc 0 u h0 hu, fun i u h0 hi hu => by rw [← add_in ad (k * n) h0]; exact hc i u hi hu⟩
def RowI (w0 : World) (T : TypeId) (n : Nat) (enc : α → List Value) (v : Value) (l : List α) (W : World) : Prop := Below w0.heap.size w0 W ∧ W.ownsRow w0.heap.size T n v l.length (l.flatMap enc)
variable {w0 W W' : World} {v : Value} {l : List α}
theorem RowI.nil (h : Below w0.heap.size w0 W) : RowI w0 T n enc (.slice none 0 0) [] W := ⟨h, World.ownsRow_nil _ _ _ _⟩
theorem RowI.on (h : RowI w0 T n enc v l W) (hb : Below W.heap.size W W') : RowI w0 T n enc v l W' := by
 refine ⟨h.1.trans (hb.mono h.1.size), h.2.1, ?_⟩
 rcases h.2.2 with h0 | ⟨g, cap, cur, rfl, hg, hh, hrest⟩
 ·exact .inl h0
 ·exact .inr ⟨g, cap, cur, rfl, hg, (hb.block _ (blk_lt hh)).trans hh, hrest⟩
theorem RowI.alloc (h : RowI w0 T n enc v l W) (o : Obj) : RowI w0 T n enc v l (W.alloc o) := h.on ((Below.refl _ W).alloc (Nat.le_refl _) _)
theorem RowI.drew (h : RowI w0 T n enc v l W) : RowI w0 T n enc v l W.drew := h.on ⟨rfl, rfl, rfl, Nat.le_refl _, fun _ _ => rfl⟩
theorem RowI.items (h : RowI w0 T n enc v l W) : ∃ A cap, v = .slice A l.length cap ∧ Items W W.heap.size A enc l ∧ NilOk A cap := by
 have hc := fun g (hg : v.ownBlock = some g) => h.2.cells hg
 obtain ⟨hl, ⟨rfl, h0⟩ | ⟨g, cap, cur, rfl, hb, hg, -⟩⟩ := h.2
 ·exact ⟨none, 0, by rw [h0], fun hp => absurd (List.length_eq_zero_iff.1 h0) hp, fun _ => rfl⟩
 ·exact ⟨some ⟨g, 0, none⟩, cap, rfl, fun _ => ⟨_, rfl, blk_lt hg, fun j u hu => hc g rfl _ _ hu⟩, fun e => by cases e⟩
theorem append_item (K : Kind T enc n bytes) {TS : TypeId} (hT : Tryz.prog.underlying TS = some (.slice T)) (HR : RowI w0 T n enc v l W) (x : α) (t' : TypeId) {cs : Array Value} (hcs : cs.toList = enc x)
  (hn : l.length + 1 ≤ maxLen) (hb : (l.length + 1) * bytes ≤ 140737488355328)
  {ops : Array Oper} {rest : List Oper} {o : Oper} {a : Act} {Q : Exit → Act → World → Prop} (hgd : o.guard = none) (s y : Operand)
  (ho : o.op = .call { callee := .builtin .append, args := #[s, y], argTypes := #[TS, TS] })
  (hs : a.eval s = v) (c : Nat) (hx : a.eval y = .slice (some ⟨W.heap.size, 0, none⟩) 1 c)
  (h : ∀ v' w', RowI w0 T n enc v' (l ++ [x]) w' → wpList Tryz.prog ops Q rest (a.put o.dst v') w') :
  wpList Tryz.prog ops Q (o :: rest) a (W.alloc (Obj.cells cs t' (0, 0))) := by
 obtain ⟨i0, z, hi, hz0, hz1, hz2, hz3⟩ := K.info
 have hA := HR.alloc (Obj.cells cs t' (0, 0))
 have hnew := heap_alloc_new W (Obj.cells cs t' (0, 0))
 refine wpList_append_own _ hgd s y TS ho w0.heap.size T i0 z n bytes hT hi hz0 hz1 hz2 hz3 K.pos v l.length (l.flatMap enc) hs hA.2 ⟨W.heap.size, 0, none⟩ 1 c (enc x) hx (by rw [K.len, Nat.one_mul]) ?_ (K.one x) hn hb hA.1.size ?_
 ·intro j u hu
  rw [add_off, blk_cell hnew, ← hu, ← hcs, Array.getElem?_toList]
 ·intro v' w' hown hgrow _
  refine h v' w' ⟨grownB hA.1 (Nat.le_refl _) hgrow (fun k hk => (hA.2.lt k hk).1), ?_⟩
  rw [List.length_append, List.flatMap_append, List.flatMap_cons, List.flatMap_nil, List.append_nil]
  exact hown
theorem append_items (K : Kind T enc n bytes) {TS : TypeId} (hT : Tryz.prog.underlying TS = some (.slice T)) (HR : RowI w0 T n enc v l W)
  (qs : List α) (A : Option Addr) (c : Nat) (hq : Items W W.heap.size A enc qs) (hnil : NilOk A c) (hn : l.length + qs.length ≤ maxLen) (hb : (l.length + qs.length) * bytes ≤ 140737488355328)
  {ops : Array Oper} {rest : List Oper} {o : Oper} {a : Act} {Q : Exit → Act → World → Prop} (hgd : o.guard = none) (s y : Operand)
  (ho : o.op = .call { callee := .builtin .append, args := #[s, y], argTypes := #[TS, TS] })
  (hs : a.eval s = v) (hx : a.eval y = .slice A qs.length c)
  (h : ∀ v' w', RowI w0 T n enc v' (l ++ qs) w' → wpList Tryz.prog ops Q rest (a.put o.dst v') w') :
  wpList Tryz.prog ops Q (o :: rest) a W := by
 obtain ⟨i0, z, hi, hz0, hz1, hz2, hz3⟩ := K.info
 cases A with
 |none =>
  obtain rfl : qs = [] := by
   cases qs with
   |nil => rfl
   |cons p q => obtain ⟨_, e, _⟩ := hq (by simp); cases e
  obtain rfl := hnil rfl
  refine wpList_append_own_none hgd s y TS ho w0.heap.size T i0 n hT hi v l.length (l.flatMap enc) hs HR.2 hx ?_
  have := h v W (by rw [List.append_nil]; exact HR)
  exact this
 |some ad =>
  refine wpList_append_own _ hgd s y TS ho w0.heap.size T i0 z n bytes hT hi hz0 hz1 hz2 hz3 K.pos v l.length (l.flatMap enc) hs HR.2 ad qs.length c (qs.flatMap enc) hx (flat_len K.len qs) ?_ (flat_one K.one qs) hn hb HR.1.size ?_
  ·intro j u hu
   obtain ⟨ad', e, -, hc⟩ := hq (fun e => by subst e; simp at hu)
   obtain rfl := Option.some.inj e
   exact hc j u hu
  ·intro v' w' hown hgrow _
   refine h v' w' ⟨grownB HR.1 (Nat.le_refl _) hgrow (fun k hk => (HR.2.lt k hk).1), ?_⟩
   rw [List.length_append, List.flatMap_append]
   exact hown
end
section
variable {α : Type} {T : TypeId} {enc : α → List Value} {n bytes : Nat} {w0 W : World} {v : Value} {l : List α}
theorem Items.drew {w : World} {B : Nat} {A : Option Addr} (h : Items w B A enc l) : Items w.drew B A enc l := h
theorem items_one {w : World} {B g : Nat} {cs : Array Value} {t : TypeId} {x : α} (hh : w.heap[g]? = some (.cells cs t (0, 0))) (hcs : cs.toList = enc x) (hg : g < B) : Items w B (some ⟨g, 0, none⟩) enc [x] := fun _ =>
 ⟨_, rfl, hg, fun j u hu => by
  rw [List.flatMap_cons, List.flatMap_nil, List.append_nil] at hu
  rw [add_off, blk_cell hh, ← hu, ← hcs, Array.getElem?_toList]⟩
theorem wp_append_items (K : Kind T enc n bytes) {TS : TypeId} (hT : Tryz.prog.underlying TS = some (.slice T)) (HR : RowI w0 T n enc v l W)
  (qs : List α) (A : Option Addr) (c : Nat) (hq : Items W W.heap.size A enc qs) (hnil : NilOk A c) (hn : l.length + qs.length ≤ maxLen) (hb : (l.length + qs.length) * bytes ≤ 140737488355328)
  {o : Oper} {a : Act} {KK : Act → World → Prop} {Q : Exit → Act → World → Prop} (s y : Operand)
  (ho : o.op = .call { callee := .builtin .append, args := #[s, y], argTypes := #[TS, TS] })
  (hs : a.eval s = v) (hx : a.eval y = .slice A qs.length c)
  (h : ∀ v' w', RowI w0 T n enc v' (l ++ qs) w' → KK (a.put o.dst v') w') : o.wp Tryz.prog a W KK Q := by
 obtain ⟨i0, z, hi, hz0, hz1, hz2, hz3⟩ := K.info
 cases A with
 |none =>
  obtain rfl : qs = [] := by
   cases qs with
   |nil => rfl
   |cons p q => obtain ⟨_, e, _⟩ := hq (by simp); cases e
  obtain rfl := hnil rfl
  have hrun := run_append_owned_none (P := Tryz.prog) (w := W) w0.heap.size TS o.type T i0 n hT hi v l.length (l.flatMap enc) HR.2
  have h' := h v W (by rw [List.append_nil]; exact HR)
  unfold Oper.wp
  have hx' : a.eval y = .slice none 0 0 := hx
  simp [execOp, ho, resolve, invoke, builtin, hs, hx', hrun, Result.andThen]
  exact h'
 |some ad =>
  refine wp_append_own W s y TS ho w0.heap.size T i0 z n bytes hT hi hz0 hz1 hz2 hz3 K.pos v l.length (l.flatMap enc) hs HR.2 ad qs.length c (qs.flatMap enc) hx (flat_len K.len qs) ?_ (flat_one K.one qs) hn hb HR.1.size ?_
  ·intro j u hu
   obtain ⟨ad', e, -, hc⟩ := hq (fun e => by subst e; simp at hu)
   obtain rfl := Option.some.inj e
   exact hc j u hu
  ·intro v' w' hown hgrow _
   refine h v' w' ⟨grownB HR.1 (Nat.le_refl _) hgrow (fun k hk => (HR.2.lt k hk).1), ?_⟩
   rw [List.length_append, List.flatMap_append]
   exact hown
theorem step_append_items (K : Kind T enc n bytes) {TS : TypeId} (hT : Tryz.prog.underlying TS = some (.slice T)) (HR : RowI w0 T n enc v l W)
  (qs : List α) (A : Option Addr) (c : Nat) (hq : Items W W.heap.size A enc qs) (hnil : NilOk A c) (hn : l.length + qs.length ≤ maxLen) (hb : (l.length + qs.length) * bytes ≤ 140737488355328)
  {ops : Array Oper} {o : Oper} {a : Act} {KK : Act → World → Prop} {Q : Exit → Act → World → Prop} {E : Prop} (hgd : o.guard = none) (s y : Operand)
  (ho : o.op = .call { callee := .builtin .append, args := #[s, y], argTypes := #[TS, TS] })
  (hs : a.eval s = v) (hx : a.eval y = .slice A qs.length c)
  (h : ∀ v' w', RowI w0 T n enc v' (l ++ qs) w' → KK (a.put o.dst v') w') :
  if Region.wanted o (yielded ops a.tmps) = true then Oper.wp Tryz.prog o a W KK Q else E := by
 have hw : Region.wanted o (yielded ops a.tmps) = true := by simp [Region.wanted, hgd]
 rw [if_pos hw]
 exact wp_append_items K hT HR qs A c hq hnil hn hb s y ho hs hx h
end
def encG (e : (Int × Int) × (Int × Int)) : List Value := [.int .i64 e.1.1, .int .i64 e.1.2, .int .i64 e.2.1, .int .i64 e.2.2]
theorem kindG : Kind 76 encG 4 32 := Kind.mk' (z := .agg #[.int .i64 0, .int .i64 0, .int .i64 0, .int .i64 0]) (fun _ => rfl) (fun a u hu => by
 simp only [encG, List.mem_cons, List.not_mem_nil, or_false] at hu
 rcases hu with rfl | rfl | rfl | rfl <;> rfl) (by decide) (by kernel_rfl) rfl
def encN (n : Int) : List Value := [.int .i64 n]
theorem kindN : Kind 3 encN 1 8 := Kind.mk' (z := .int .i64 0) (fun _ => rfl) (fun a u hu => by
 simp only [encN, List.mem_cons, List.not_mem_nil, or_false] at hu
 subst hu; rfl) (by decide) (by kernel_rfl) rfl
end Go.Proofs.YtjlnjjmomohpaaaGreat
