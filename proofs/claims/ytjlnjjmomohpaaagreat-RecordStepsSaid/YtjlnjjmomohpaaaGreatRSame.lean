/- Layer record: maps of items by their keys: what a store at any key leaves; the last item of each key. -/
import Derived.Test.YtjlnjjmomohpaaaGreatRDoc2
import Derived.Test.YtjlnjjmomohpaaaGreatMapE
import Derived.StringKeys
namespace Go.Proofs.YtjlnjjmomohpaaaGreat
open Go.RowKit Go.Lib Go.ChangeMaps Go.MapKept

def sv (s : ByteArray) : Value := .string s
def OkS (s : ByteArray) : Prop := s.size ≤ maxLen
def iV (x : IV) : Value := .agg #[.slice x.kA x.key.length x.kc, .slice x.vA x.val.length x.vc]
def noIt : IV := ⟨[], none, 0, [], none, 0⟩
theorem keyS : KeyK 9 sv OkS where
 K := Go.Maps.string_keyed Tryz.underlying9
 lit _ ha := ⟨_, WideMaps.keyOf_string_mk Tryz.underlying9 ha⟩
 inj _ _ h := Value.string.inj h
theorem zeroIt (w : World) : (zeroValue 39).run Tryz.prog w = .ok (iV noIt) w := by kernel_rfl
section
variable {α β : Type} {T : TypeId} {ek : α → Value} {ev : β → Value} {Ok : α → Prop} {W W' : World} {b : Nat} {l : List (α × β)} {t e : TypeId}
theorem MapIs.putAny (h : MapIs W b ek ev Ok l) (K : KeyK T ek Ok) (ht : Tryz.prog.underlying t = some (.map T e)) {a : α} (ha : Ok a) (v : β) :
  ∃ W' l', (Instr.mapUpdate t (.map (some b)) (ek a) (ev v)).run Tryz.prog W = .ok () W' ∧ MapIs W' b ek ev Ok l' ∧ (∀ p, p ∈ l' ↔ p = (a, v) ∨ (p ∈ l ∧ p.1 ≠ a)) ∧ l'.length ≤ l.length + 1 ∧ W.grownBy W' (some b) ∧ W'.heap.size = W.heap.size := by
 by_cases hn : a ∈ l.map Prod.fst
 ·have hnd := h.nodup
  obtain ⟨es, c, hb, hl, hs, hok⟩ := h
  obtain ⟨kl, hkey⟩ := K.lit a ha
  have hks : ∀ x ∈ es.toList, ∃ y, keyOf Tryz.prog T x.key = some y := fun x hx => by
   obtain ⟨p, hp, e1, _⟩ := entry_of hl hx
   rw [e1]
   exact K.lit _ (hok p hp)
  rcases K.K.find W hkey es.toList hks with ⟨h1, h2⟩ | ⟨j, e0, h1, h2, h3⟩
  ·obtain ⟨p, hp, e1⟩ := List.mem_map.1 hn
   obtain ⟨x, hx, e2, _⟩ := of_entry hl hp
   exact absurd (by rw [e2, e1]) (h2 x hx)
  ·have hj : es[j]? = some e0 := by simpa using h2
   have hjl : j < l.length := by
    have h4 : es.toList.length = l.length := by rw [← List.length_map (f := fun e : MapEntry => (e.key, e.val)), hl, List.length_map]
    have := (List.getElem?_eq_some_iff.1 h2).1
    omega
   have hkp : e0.key = ek l[j].1 := by
    have := congrArg (fun q => q[j]?) hl
    simp only [List.getElem?_map, h2, List.getElem?_eq_getElem hjl, Option.map_some] at this
    exact congrArg Prod.fst (Option.some.inj this)
   have e3 : l[j].1 = a := K.inj _ _ (by rw [← hkp, h3])
   have hlist : (es.modify j (fun e' => { e' with key := ek a, val := ev v })).toList = es.toList.set j { e0 with key := ek a, val := ev v } := by rw [Array.toList_modify, modify_eq_set _ _ _ _ h2]
   refine ⟨setBlock W b (.map (es.modify j fun e => { e with key := ek a, val := ev v }) c), l.set j (a, v), ?_, ⟨_, _, heap_setBlock_same hb _, ?_, stamped_modify hs _ _ (fun _ _ => rfl) (fun x hx _ => ?_), ?_⟩, ?_, ?_, ⟨rfl, rfl, rfl, by simp [setBlock], fun i _ hi => heap_setBlock_other hb _ (fun e => hi (by rw [e]))⟩, by simp [setBlock]⟩
   ·simp [Instr.mapUpdate, run_underlying ht, MapKept.run_getObj_map hb, K.K.check W false hkey, h1, hj, h3, K.K.stays W hkey, MapKept.run_setObj_map _ hb, Result.andThen, setBlock]
   ·rw [hlist]
    exact set_of hl j rfl
   ·rename_i hx2
    rw [hj] at hx2
    obtain rfl := Option.some.inj hx2
    exact h3.symm
   ·intro q hq
    rcases List.mem_or_eq_of_mem_set hq with h | rfl
    ·exact hok q h
    ·exact ha
   ·intro p
    constructor
    ·intro hp
     obtain ⟨i, hi, hpi⟩ := List.getElem_of_mem hp
     rw [List.length_set] at hi
     rw [List.getElem_set] at hpi
     by_cases hij : j = i
     ·rw [if_pos hij] at hpi
      exact .inl hpi.symm
     ·rw [if_neg hij] at hpi
      refine .inr ⟨hpi ▸ List.getElem_mem hi, fun e4 => hij ?_⟩
      have h5 : (l.map Prod.fst)[j]'(by simpa using hjl) = (l.map Prod.fst)[i]'(by simpa using hi) := by rw [List.getElem_map, List.getElem_map, e3, hpi, e4]
      exact (List.getElem_inj hnd).1 h5
    ·rintro (rfl | ⟨hp, hne⟩)
     ·exact List.mem_set hjl _
     ·obtain ⟨i, hi, hpi⟩ := List.getElem_of_mem hp
      have hij : j ≠ i := fun e4 => hne (by subst e4; rw [← hpi, e3])
      rw [← hpi]
      refine List.mem_of_getElem? (i := i) ?_
      rw [List.getElem?_set_ne hij, List.getElem?_eq_getElem hi]
   ·rw [List.length_set]; omega
 ·obtain ⟨W', h1, h2, h3, h4⟩ := h.store K ht ha hn v
  refine ⟨W', _, h1, h2, fun p => ?_, by simp, h3, h4⟩
  rw [List.mem_append, List.mem_singleton]
  constructor
  ·rintro (hp | rfl)
   ·exact .inr ⟨hp, fun e4 => hn (e4 ▸ List.mem_map_of_mem hp)⟩
   ·exact .inl rfl
  ·rintro (rfl | ⟨hp, -⟩)
   ·exact .inr rfl
   ·exact .inl hp
end
section
variable {α β : Type} {T : TypeId} {ek : α → Value} {ev : β → Value} {Ok : α → Prop} {W : World} {b : Nat} {l : List (α × β)} {ops : Array Oper} {rest : List Oper} {o : Oper} {a : Act} {Q : Exit → Act → World → Prop}
theorem wp_putAny (hg : o.guard = none) (m x v : Operand) (t : TypeId) (hop : o.op = Op.mapUpdate t m x v) (e : TypeId) (K : KeyK T ek Ok) (ht : Tryz.prog.underlying t = some (.map T e)) (b : Nat)
  (hm : a.eval m = .map (some b)) (h : MapIs W b ek ev Ok l) {k : α} (hk : Ok k) {y : β} (hx : a.eval x = ek k) (hv : a.eval v = ev y)
  (hK : ∀ W' l', MapIs W' b ek ev Ok l' → (∀ p, p ∈ l' ↔ p = (k, y) ∨ (p ∈ l ∧ p.1 ≠ k)) → l'.length ≤ l.length + 1 → W.grownBy W' (some b) → W'.heap.size = W.heap.size → wpList Tryz.prog ops Q rest (a.put o.dst undef) W') : wpList Tryz.prog ops Q (o :: rest) a W := by
 refine wpList_plain hg fun K' hK' => ?_
 obtain ⟨W', l', hrun, r1, r2, r3, r4, r5⟩ := h.putAny K ht hk y
 unfold Oper.wp
 simp [execOp, hop, hm, hx, hv, hrun, Result.andThen]
 exact hK' _ _ (hK W' l' r1 r2 r3 r4 r5)
end
def IV.kS (x : IV) : ByteArray := ⟨x.key.toArray⟩
def lastOf : List IV → ByteArray → Option IV
 |[], _ => none
 |x :: l, s => (lastOf l s).or (if x.kS = s then some x else none)
theorem lastOf_append (l : List IV) (x : IV) (s : ByteArray) : lastOf (l ++ [x]) s = if x.kS = s then some x else lastOf l s := by
 induction l with
 |nil => simp [lastOf]
 |cons y l ih =>
  rw [List.cons_append, lastOf, ih, lastOf]
  by_cases h : x.kS = s
  ·simp [h]
  ·simp [h]
theorem lastOf_mem {l : List IV} {s : ByteArray} {x : IV} (h : lastOf l s = some x) : x ∈ l ∧ x.kS = s := by
 induction l with
 |nil => cases h
 |cons y l ih =>
  rw [lastOf] at h
  cases h1 : lastOf l s with
  |some z =>
   rw [h1] at h
   cases h
   exact ⟨.tail _ (ih h1).1, (ih h1).2⟩
  |none =>
   rw [h1] at h
   by_cases h2 : y.kS = s
   ·rw [if_pos h2] at h
    cases h
    exact ⟨.head _, h2⟩
   ·rw [if_neg h2] at h
    cases h
structure Lasts (w0 W : World) (b : Nat) (l : List IV) (L : List (ByteArray × IV)) : Prop where
 map : MapIs W b sv iV OkS L
 tell : ∀ s x, (s, x) ∈ L ↔ lastOf l s = some x
 few : L.length ≤ l.length
 new : w0.heap.size ≤ b
 below : Below w0.heap.size w0 W
theorem Lasts.step {w0 W W' : World} {b : Nat} {l : List IV} {L L' : List (ByteArray × IV)} (h : Lasts w0 W b l L) {x : IV} (hm : MapIs W' b sv iV OkS L') (ht : ∀ p, p ∈ L' ↔ p = (x.kS, x) ∨ (p ∈ L ∧ p.1 ≠ x.kS)) (hl : L'.length ≤ L.length + 1) (hb : Below w0.heap.size w0 W') : Lasts w0 W' b (l ++ [x]) L' where
 map := hm
 tell s y := by
  rw [ht, lastOf_append]
  by_cases e : x.kS = s
  ·rw [if_pos e]
   constructor
   ·rintro (h1 | ⟨-, h1⟩)
    ·rw [(Prod.mk.inj h1).2]
    ·exact absurd e.symm h1
   ·intro h1
    cases h1
    exact .inl (by rw [e])
  ·rw [if_neg e, ← h.tell]
   constructor
   ·rintro (h1 | ⟨h1, -⟩)
    ·exact absurd (Prod.mk.inj h1).1.symm e
    ·exact h1
   ·exact fun h1 => .inr ⟨h1, fun h2 => e h2.symm⟩
 few := by rw [List.length_append]; have := h.few; simp; omega
 new := h.new
 below := hb
set_option maxRecDepth 100000 in
set_option maxHeartbeats 4000000 in
theorem lasts_any (l : List IV) (A : Option Addr) (c : Nat) (hl : l.length ≤ 1000000) (hk : ∀ x ∈ l, x.key.length ≤ maxLen) (w : World) (h : ItsAt w A l) :
  Calls Tryz.prog 51 #[.slice A l.length c] w fun e w' => ∃ b L, e = .returned (.map (some b)) ∧ Lasts w w' b l L := by
 have HI := Lib.hid (fun W (hb : Below w.heap.size w W) => h.on hb)
 have HK := Lib.hid hk
 clear h hk
 go_enter Tryz.func51, Tryz.ntmps51
 have hmm := @run_makeMap Tryz.prog
 go_upto_region 2 with (fail)
 clear hmm
 have hm0 : Lasts w (w.alloc (.map #[] 0)) w.heap.size [] [] := ⟨MapIs.made w, fun s x => by simp [lastOf], Nat.le_refl _, Nat.le_refl _, (Below.refl _ w).alloc (Nat.le_refl _) _⟩
 generalize (World.alloc _ _) = W1 at hm0 ⊢
 obtain ⟨b, hb⟩ : ∃ b, w.heap.size = b := ⟨_, rfl⟩
 have HB0 := Lib.hid hb
 rw [hb] at hm0 ⊢
 have HM0 := Lib.hid hm0
 clear hb hm0
 go_wp2_with fail
 go_loopg [9] l.length (fun g i wr => ∃ k L, k ≤ l.length ∧ g = l.length - k ∧ i = .int .i64 (k : Int) ∧ Lasts w wr b (l.take k) L)
 case atStart => exact ⟨0, [], Nat.zero_le _, rfl, rfl, HM0.out⟩
 case round =>
  obtain ⟨k, L, hk, hgk, rfl, HV⟩ := hrel
  have HGK := Lib.hid hgk
  clear hgk
  by_cases hlt : k < l.length
  ·have b0 : (0 : Int) ≤ (k : Int) := by omega
   have b1 : (k : Int) < (l.length : Int) := by omega
   have hk0 : IntKind.i64.wrap ((k : Int) + 1) = (k : Int) + 1 := IntWalk.i64_in _ (by omega)
   obtain ⟨ad, hA, d0, d1⟩ := its_at (HI.out _ HV.below) hlt
   have hT : Hid (l.take (k + 1) = l.take k ++ [l[k]]) := Lib.hid (List.take_succ_eq_append_getElem hlt)
   subst hA
   have hAt := (HI.out _ HV.below).2 l[k] (List.getElem_mem hlt)
   have hok : Hid (OkS l[k].kS) := by
    have := HK.out l[k] (List.getElem_mem hlt)
    unfold Hid OkS IV.kS
    simpa [ByteArray.size] using this
   have HV0 := Lib.hid HV
   clear HK
   generalize l[k] = x at *
   go_upto_region 5 with (fail)
   clear d0 d1
   have HLB := Lib.hid ((Below.refl wr.heap.size wr).alloc (Nat.le_refl _) (Obj.cells #[.slice x.kA x.key.length x.kc, .slice x.vA x.val.length x.vc] 39))
   have hnew := heap_alloc_new wr (Obj.cells #[.slice x.kA x.key.length x.kc, .slice x.vA x.val.length x.vc] 39)
   have HM1 := Lib.hid (HV.map.alloc (Obj.cells #[.slice x.kA x.key.length x.kc, .slice x.vA x.val.length x.vc] 39))
   have hcv := conv_str (c := x.kc) (hAt.on HLB.out).key.bytes
   have HB2 := Lib.hid (HV.below.trans (HLB.out.mono HV.below.size))
   clear hAt HV
   generalize (World.alloc _ _) = W2 at *
   have c0 : W2.cell? ⟨wr.heap.size, 0, none⟩ = some (.slice x.kA x.key.length x.kc) := blk_cell hnew 0
   have c1 : W2.cell? ⟨wr.heap.size, 1, none⟩ = some (.slice x.vA x.val.length x.vc) := blk_cell hnew 1
   clear hnew
   generalize wr.heap.size = g2 at *
   go_wp2_with (at_mapUpdate; refine wp_putAny (k := x.kS) (y := x) rfl _ _ _ 96 rfl 39 keyS Tryz.underlying96 b rfl HM1.out hok.out rfl rfl ?_; intro W9 L9 hm9 ht9 hl9 hg9 hs9; have HM9 := Lib.hid hm9; have HT9 := Lib.hid ht9; have HL9 := Lib.hid hl9; have HG9 := Lib.hid hg9; clear hm9 ht9 hl9 hg9 hs9)
   go_roundg (l.length - (k + 1))
   case measure => have := HGK.out; omega
   case rel =>
    refine ⟨k + 1, L9, by omega, rfl, by go_num, ?_⟩
    rw [hT.out]
    refine HV0.out.step HM9.out HT9.out HL9.out ?_
    exact below_of HB2.out HV0.out.new HG9.out
  ·obtain rfl : k = l.length := by omega
   rw [List.take_length] at HV
   have HK := Lib.hid HV
   clear HV
   go_wp2
   go_ret
   exact ⟨b, L, rfl, HK.out⟩
end Go.Proofs.YtjlnjjmomohpaaaGreat

namespace Go.Proofs.YtjlnjjmomohpaaaGreat
open Go.RowKit Go.Lib

theorem mk_beq (s t : List UInt8) : ((⟨s.toArray⟩ : ByteArray).toList == (⟨t.toArray⟩ : ByteArray).toList) = decide (s = t) := by
 rw [bytes_list, bytes_list]
 by_cases h : s = t
 ·simp [h]
 ·simp [h]
theorem Equal_any {W : World} {A B : Option Addr} {c d : Nat} {s t : List UInt8} (hs : BytesAt W A s.length s) (ht : BytesAt W B t.length t) :
  Calls Tryz.prog 88 #[.slice A s.length c, .slice B t.length d] W fun e w' => e = .returned (.bool (decide (s = t))) ∧ w' = W := by
 have h1 := conv_str (c := c) hs
 have h2 := conv_str (c := d) ht
 have he := mk_beq s t
 generalize (⟨s.toArray⟩ : ByteArray) = s1 at *
 generalize (⟨t.toArray⟩ : ByteArray) = s2 at *
 generalize decide (s = t) = z at *
 clear hs ht
 go_enter Tryz.func88, Tryz.ntmps88
 go_wp2
 go_ret
 exact ⟨by rw [← he]; rfl, rfl⟩
set_option maxRecDepth 100000 in
set_option maxHeartbeats 1000000 in
theorem same_any {w : World} (x y : IV) (hx : ItAt w x) (hy : ItAt w y) :
  Calls Tryz.prog 49 #[iV x, iV y] w fun e w' => e = .returned (.bool (decide (x.key = y.key) && decide (x.val = y.val))) ∧ Below w.heap.size w w' := by
 unfold iV
 have HQ := ((Hold.refl w).new #[.slice x.kA x.key.length x.kc, .slice x.vA x.val.length x.vc] 39).new' #[.slice y.kA y.key.length y.kc, .slice y.vA y.val.length y.vc] 39 (n := w.heap.size + 1) (by simp only [World.size_alloc])
 have HC := Lib.hid (fun W (h : Below w.heap.size w W) => Equal_any (c := x.kc) (d := y.kc) (hx.on h).key.bytes (hy.on h).key.bytes)
 have HD := Lib.hid (fun W (h : Below w.heap.size w W) => Equal_any (c := x.vc) (d := y.vc) (hx.on h).val.bytes (hy.on h).val.bytes)
 clear hx hy
 generalize decide (x.key = y.key) = z at *
 generalize decide (x.val = y.val) = z2 at *
 go_enter Tryz.func49, Tryz.ntmps49
 go_upto_region 1 with (fail)
 generalize (World.alloc _ _) = W1 at HQ ⊢
 generalize w.heap.size + 1 = g1 at HQ ⊢
 obtain ⟨a0, a1⟩ := HQ.pt (.head _)
 obtain ⟨b0, b1⟩ := HQ.pt (.tail _ (.head _))
 have HB := Lib.hid HQ.1
 clear HQ
 cases z
 ·go_wp2_with (go_at_call 88; go_must ((first | (with_reducible refine (HC.out _ HB.out).mono ?_) | (with_reducible refine (HD.out _ HB.out).mono ?_)); rintro e' w' ⟨rfl, rfl⟩))
  go_ret
  exact ⟨rfl, HB.out⟩
 ·go_wp2_with (go_at_call 88; go_must ((first | (with_reducible refine (HC.out _ HB.out).mono ?_) | (with_reducible refine (HD.out _ HB.out).mono ?_)); rintro e' w' ⟨rfl, rfl⟩))
  go_ret
  exact ⟨rfl, HB.out⟩
end Go.Proofs.YtjlnjjmomohpaaaGreat
