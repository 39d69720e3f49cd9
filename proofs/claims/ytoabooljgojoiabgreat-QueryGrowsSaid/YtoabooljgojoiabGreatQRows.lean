/- A row of whole numbers of the call's own, sorted, and each but once. -/
import Derived.Test.YtoabooljgojoiabGreatQDel
import Derived.Test.YtoabooljgojoiabGreatShelf
import Derived.Test.YtoabooljgojoiabGreatShelfC
import Derived.Lib.OwnBridge
import Derived.Test.YtoabooljgojoiabGreatGridC
namespace Go.Proofs.YtoabooljgojoiabGreat
open Go.RowKit Go.Sort
theorem merge_le (l : List Int) : (l.mergeSort fun x y => decide (x ≤ y)).Pairwise (· ≤ ·) := by
 have h := List.pairwise_mergeSort (le := fun x y : Int => decide (x ≤ y)) (fun a b c h1 h2 => by simp at h1 h2 ⊢; omega) (fun a b => by simp; omega) l
 exact h.imp fun h => by simpa using h
theorem sortZ_any (w W : World) (v : Value) (ys : List Int) (hln : ys.length ≤ 1000000) (hr : RowI w 3 1 encN v ys W) :
  Calls Tryz.prog 64 #[v] W fun e W' => e = .returned (.tuple #[]) ∧ ((ys = [] ∧ v = .slice none 0 0 ∧ Below w.heap.size w W') ∨ ∃ g cap, v = .slice (some ⟨g, 0, none⟩) ys.length cap ∧ ys.length ≤ cap ∧ ys.length ≤ maxLen ∧ RowZ w W' g 0 (ys.mergeSort fun x y => decide (x ≤ y)).toArray) := by
 obtain ⟨hB, hl, ⟨rfl, h0⟩ | ⟨g, cap, cur, rfl, hb, hg, hn, hc, hs, ht⟩⟩ := hr
 ·have e0 : ys = [] := List.length_eq_zero_iff.1 h0
  exact (Tryz.slices_Sort_int_none none 0 W).mono fun e W' ⟨h1, h2⟩ => ⟨h1, .inl ⟨e0, rfl, by rw [h2]; exact hB⟩⟩
 ·have hH : Holds (Value.int .i64) W g 0 ys.toArray := fun j hj => by
   have hj' : j < ys.length := by simpa using hj
   rw [Nat.zero_add]
   refine ⟨?_, blk_frozen hg j⟩
   rw [blk_cell hg j, ← Array.getElem?_toList]
   have h2 : (cur.toList.take (ys.length * 1))[j]? = cur.toList[j]? := List.getElem?_take_of_lt (by omega)
   rw [← h2, ht]
   have h3 := flat_get (enc := encN) (n := 1) (fun _ => rfl) ys j ys[j] 0 (List.getElem?_eq_getElem hj') (by omega)
   rw [Nat.mul_one, Nat.add_zero] at h3
   rw [h3]
   simp [encN, hj']
  have hlt := blk_lt hg
  have hml : ys.length ≤ maxLen := by omega
  refine (Tryz.slices_Sort_int g 0 cap ys W hH hlt (by omega)).mono ?_
  rintro e W' ⟨h1, n, os, rfl⟩
  have hp : (ys.mergeSort fun x y => decide (x ≤ y)).length = ys.length := (List.mergeSort_perm ys _).length_eq
  refine ⟨h1, .inr ⟨g, cap, rfl, hn, hml, ⟨hB.os, hB.tape, hB.output, by rw [size_grow, size_putRow]; exact Nat.le_trans hB.size (Nat.le_add_right _ _), fun k hk => ?_⟩, hb, by rw [size_grow, size_putRow]; exact Nat.lt_of_lt_of_le hlt (Nat.le_add_right _ _), ?_⟩⟩
  ·have hkW : k < W.heap.size := Nat.lt_of_lt_of_le hk hB.size
   rw [heap_grow_old _ _ (by rw [size_putRow]; exact hkW)]
   have hne : g ≠ k := by omega
   show (W.heap.modify g _)[k]? = _
   rw [Array.getElem?_modify, if_neg hne]
   exact hB.block k hk
  ·exact holds_grow _ _ _ _ _ _ (by rw [size_putRow]; exact hlt) (holds_putRow _ _ _ _ _ _ (holds_ahead _ _ _ _ _ _ hH) (by simp))
theorem comp_inv (d : Array Int) (hs : ∀ i j, i ≤ j → j < d.size → d[i]! ≤ d[j]!) : ∀ m, m ≤ d.size → (Lib.compactUpTo d m).Pairwise (· < ·) ∧ ∀ x, x ∈ Lib.compactUpTo d m ↔ ∃ j, j < m ∧ d[j]! = x
 |0, _ => ⟨by simp [Lib.compactUpTo], fun x => by simp [Lib.compactUpTo]⟩
 |m + 1, h => by
  obtain ⟨h1, h2⟩ := comp_inv d hs m (by omega)
  rw [Lib.compactUpTo_succ]
  cases hk : Lib.keeps d m
  ·unfold Lib.keeps at hk
   rw [decide_eq_false_iff_not] at hk
   have hm : m ≠ 0 := fun e => hk (.inl e)
   have he : d[m]! = d[m - 1]! := Classical.byContradiction fun e => hk (.inr e)
   simp only [Bool.false_eq_true, if_false, List.append_nil]
   refine ⟨h1, fun x => (h2 x).trans ⟨fun ⟨j, hj, e⟩ => ⟨j, by omega, e⟩, fun ⟨j, hj, e⟩ => ?_⟩⟩
   by_cases ej : j = m
   ·subst ej; exact ⟨j - 1, by omega, he ▸ e⟩
   ·exact ⟨j, by omega, e⟩
  ·simp only [if_true]
   unfold Lib.keeps at hk
   rw [decide_eq_true_eq] at hk
   refine ⟨List.pairwise_append.2 ⟨h1, List.pairwise_singleton _ _, fun a ha b hb => ?_⟩, fun x => ?_⟩
   ·obtain rfl := List.mem_singleton.1 hb
    obtain ⟨j, hj, rfl⟩ := (h2 a).1 ha
    have g1 := hs j (m - 1) (by omega) (by omega)
    have g2 := hs (m - 1) m (by omega) (by omega)
    rcases hk with hk | hk
    ·omega
    ·omega
   ·rw [List.mem_append, h2 x, List.mem_singleton]
    constructor
    ·rintro (⟨j, hj, e⟩ | rfl)
     ·exact ⟨j, by omega, e⟩
     ·exact ⟨m, by omega, rfl⟩
    ·rintro ⟨j, hj, e⟩
     by_cases ej : j = m
     ·subst ej; exact .inr e.symm
     ·exact .inl ⟨j, by omega, e⟩
theorem comp_says {zs : List Int} (hs : zs.Pairwise (· ≤ ·)) : (Lib.compact zs).Pairwise (· < ·) ∧ ∀ x, x ∈ Lib.compact zs ↔ x ∈ zs := by
 have h := comp_inv zs.toArray (fun i j hij hj => by
  have hj' : j < zs.length := by simpa using hj
  rw [getElem!_pos zs.toArray i (by simp; omega), getElem!_pos zs.toArray j hj]
  by_cases e : i = j
  ·subst e; exact Int.le_refl _
  ·have := List.pairwise_iff_getElem.1 hs i j (by omega) hj' (by omega)
   simpa using this) zs.length (by simp)
 refine ⟨h.1, fun x => (h.2 x).trans ⟨fun ⟨j, hj, e⟩ => ?_, fun hx => ?_⟩⟩
 ·rw [← e, getElem!_pos zs.toArray j (by simpa using hj)]
  simp
 ·obtain ⟨j, hj, e⟩ := List.getElem_of_mem hx
  exact ⟨j, hj, by rw [getElem!_pos zs.toArray j (by simpa using hj)]; simpa using e⟩
theorem compZ_any (w W : World) (g cap : Nat) (zs : List Int) (hz : RowZ w W g 0 zs.toArray) (hn : zs.length ≤ maxLen) (hcap : zs.length ≤ cap) :
  Calls Tryz.prog 65 #[.slice (some ⟨g, 0, none⟩) zs.length cap] W fun e W' => e = .returned (.slice (some ⟨g, 0, none⟩) (Lib.compact zs).length cap) ∧ RowZ w W' g 0 (Lib.compact zs).toArray := by
 refine (Tryz.slices_Compact_int g 0 cap zs W hz.2.2.2 (by unfold maxLen at hn; omega) hcap).mono ?_
 rintro e W' ⟨h1, q, rfl⟩
 have hle := Lib.compact_length_le zs
 have hh := holds_putRow (Value.int .i64) (Sort.ahead W q) g 0 zs.toArray (Lib.compact zs ++ List.replicate (zs.length - (Lib.compact zs).length) 0).toArray (holds_ahead _ _ _ _ _ _ hz.2.2.2) (by simp; omega)
 refine ⟨h1, Lib.below_putRow hz.1 hz.2.1, hz.2.1, by rw [size_putRow]; exact hz.2.2.1, fun j hj => ?_⟩
 have hj' : j < (Lib.compact zs).length := by simpa using hj
 have := hh j (by simp; omega)
 rw [getElem!_pos _ j (by simp; omega)] at this
 rw [getElem!_pos _ j hj]
 simpa [List.getElem_append_left hj'] using this
end Go.Proofs.YtoabooljgojoiabGreat

namespace Go.Proofs.YtoabooljgojoiabGreat
open Go.RowKit
theorem cellsCl : Tryz.prog.cellsOf 95 = 2 := by kernel_rfl
theorem keyC : KeyK 95 pv OkP where
 K := Go.Maps.Keyed.of_law (deep_law_laid laidOut (m := 4) (by omega) (of_decide_eq_true (by kernel_rfl)) (by kernel_rfl) (by rw [Tryz.underlying95]))
 lit a ha := by
  have hk : Tryz.prog.keyType 95 = true := by kernel_rfl
  obtain ⟨d, hd⟩ : ∃ d, Tryz.prog.types.size + 1 = d + 3 := ⟨Tryz.prog.types.size - 2, by have := manyTypes; omega⟩
  have w1 := wf64 ha.1
  have w2 := wf64 ha.2
  refine ⟨_, by
   unfold keyOf
   rw [Tryz.underlying95]
   simp only [hk, hd]
   simp [Program.keyLits, Value.formed, Tryz.underlying95, Tryz.underlying3, cellsCl, cellsInt, pv, Value.cells, w1, w2]
   rfl⟩
 inj a b h := by
  unfold pv at h
  simp at h
  exact Prod.ext h.1 h.2
def cvV (r : List Int × Option Addr × Nat) : Value := .slice r.2.1 r.1.length r.2.2
def cv0 : List Int × Option Addr × Nat := ([], none, 0)
theorem zeroC (w : World) : (zeroValue 36).run Tryz.prog w = .ok (cvV cv0) w := by kernel_rfl
def CellsAt (W : World) (b : Nat) (F : (Int × Int) → List Int) : Prop := ∃ m3 L, W.cell? ⟨b, 5, none⟩ = some (.map (some m3)) ∧ MapIs W m3 pv cvV OkP L ∧ ∀ c r, Got L cv0 c r → r.1.1 = F c ∧ Items W W.heap.size r.1.2.1 encN r.1.1 ∧ NilOk r.1.2.1 r.1.2.2 ∧ ∀ ad, r.1.2.1 = some ad → some b ≠ some ad.block
theorem CellsAt.on {W W' : World} {b : Nat} {F : (Int × Int) → List Int} (h : CellsAt W b F) (hb : Below W.heap.size W W') : CellsAt W' b F := by
 obtain ⟨m3, L, h1, h2, h3⟩ := h
 exact ⟨m3, L, (hb.cell (lt_of_cell h1)).trans h1, h2.on hb h2.lt, fun c r hr => ⟨(h3 c r hr).1, (h3 c r hr).2.1.on hb, (h3 c r hr).2.2⟩⟩
def tidyL (es : List Int) : List Int := Lib.compact (es.mergeSort fun x y => decide (x ≤ y))
theorem tidy_says (es : List Int) : (tidyL es).Pairwise (· < ·) ∧ ∀ x, x ∈ tidyL es ↔ x ∈ es := by
 have h := comp_says (merge_le es)
 exact ⟨h.1, fun x => (h.2 x).trans List.mem_mergeSort⟩
theorem asc_ext : ∀ {l m : List Int}, l.Pairwise (· < ·) → m.Pairwise (· < ·) → (∀ x, x ∈ l ↔ x ∈ m) → l = m
 |[], [], _, _, _ => rfl
 |[], y :: m, _, _, h => absurd ((h y).2 List.mem_cons_self) List.not_mem_nil
 |x :: l, [], _, _, h => absurd ((h x).1 List.mem_cons_self) List.not_mem_nil
 |x :: l, y :: m, h1, h2, h => by
  have a1 := (List.pairwise_cons.1 h1).1
  have a2 := (List.pairwise_cons.1 h2).1
  have e : x = y := by
   rcases List.mem_cons.1 ((h x).1 List.mem_cons_self) with e | e
   ·exact e
   ·rcases List.mem_cons.1 ((h y).2 List.mem_cons_self) with e2 | e2
    ·exact e2.symm
    ·have := a1 y e2
     have := a2 x e
     omega
  subst e
  rw [asc_ext (List.pairwise_cons.1 h1).2 (List.pairwise_cons.1 h2).2 fun z => ⟨fun hz => ?_, fun hz => ?_⟩]
  ·rcases List.mem_cons.1 ((h z).1 (List.mem_cons_of_mem _ hz)) with e | e
   ·have := a1 z hz; omega
   ·exact e
  ·rcases List.mem_cons.1 ((h z).2 (List.mem_cons_of_mem _ hz)) with e | e
   ·have := a2 z hz; omega
   ·exact e
theorem tidy_perm {cs : List (Int × Int)} {F G : (Int × Int) → List Int} (h : ∀ c, (F c).Perm (G c)) : tidyL (cs.flatMap F) = tidyL (cs.flatMap G) := by
 obtain ⟨f1, f2⟩ := tidy_says (cs.flatMap F)
 obtain ⟨g1, g2⟩ := tidy_says (cs.flatMap G)
 refine asc_ext f1 g1 fun x => ?_
 rw [f2, g2, List.mem_flatMap, List.mem_flatMap]
 exact ⟨fun ⟨c, h1, h2⟩ => ⟨c, h1, (h c).mem_iff.1 h2⟩, fun ⟨c, h1, h2⟩ => ⟨c, h1, (h c).mem_iff.2 h2⟩⟩
theorem flat_perm {F G : (Int × Int) → List Int} (h : ∀ c, (F c).Perm (G c)) : ∀ cs : List (Int × Int), (cs.flatMap F).length = (cs.flatMap G).length
 |[] => rfl
 |c :: cs => by rw [List.flatMap_cons, List.flatMap_cons, List.length_append, List.length_append, (h c).length_eq, flat_perm h cs]
def CellsP (W : World) (b : Nat) (F : (Int × Int) → List Int) : Prop := ∃ F', (∀ c, (F' c).Perm (F c)) ∧ CellsAt W b F'
theorem CellsP.on {W W' : World} {b : Nat} {F : (Int × Int) → List Int} (h : CellsP W b F) (hb : Below W.heap.size W W') : CellsP W' b F := by
 obtain ⟨F', h1, h2⟩ := h
 exact ⟨F', h1, h2.on hb⟩
def IdxD (W : World) (b m1 m2 : Nat) (n : Int) (F : (Int × Int) → List Int) : Prop := ∃ q v, W.heap[b]? = some (.cells #[.map (some m1), .map (some m2), (.int .u32 1), (.int .i32 0), q, v, .int .i64 n] 78 (0, 0)) ∧ CellsP W b F
theorem IdxD.on {W W' : World} {b m1 m2 : Nat} {n : Int} {F : (Int × Int) → List Int} (h : IdxD W b m1 m2 n F) (hb : Below W.heap.size W W') : IdxD W' b m1 m2 n F := by
 obtain ⟨q, v, h1, h2⟩ := h
 exact ⟨q, v, (hb.block _ (blk_lt h1)).trans h1, h2.on hb⟩
theorem IdxD.rings {W : World} {b m1 m2 : Nat} {n : Int} {F : (Int × Int) → List Int} (h : IdxD W b m1 m2 n F) : W.cell? ⟨b, 0, none⟩ = some (.map (some m1)) := by
 obtain ⟨q, v, h1, _⟩ := h
 exact blk_cell h1 0
theorem IdxD.cells {W : World} {b m1 m2 : Nat} {n : Int} {F : (Int × Int) → List Int} (h : IdxD W b m1 m2 n F) : CellsP W b F := by
 obtain ⟨q, v, _, h2⟩ := h
 exact h2
def NearAt (w W : World) (v : Value) (zs : List Int) : Prop := (zs = [] ∧ v = .slice none 0 0 ∧ Below w.heap.size w W) ∨ ∃ g cap, v = .slice (some ⟨g, 0, none⟩) zs.length cap ∧ zs.length ≤ cap ∧ zs.length ≤ maxLen ∧ RowZ w W g 0 zs.toArray
set_option maxRecDepth 100000 in
set_option maxHeartbeats 2000000 in
theorem near_any (b : Nat) (cs : List (Int × Int)) (Ac : Option Addr) (cc : Nat) (R : World → Prop) (F : (Int × Int) → List Int) (w : World)
  (HO : Calls Tryz.prog 62 #[.pointer (some ⟨b, 2, none⟩), .func (.func 63) #[.pointer (some ⟨b, 0, none⟩)] #[]] w fun e W => e = .returned (.tuple #[]) ∧ R W)
  (hR : ∀ W, R W → Items W W.heap.size Ac encP cs ∧ CellsP W b F) (hn : (cs.flatMap F).length ≤ 1000000) (hl : cs.length ≤ 1000000) (hcs : ∀ c ∈ cs, OkP c) :
  Calls Tryz.prog 35 #[.pointer (some ⟨b, 0, none⟩), .slice Ac cs.length cc] w fun e W' => ∃ W1, R W1 ∧ ∃ v, e = .returned v ∧ NearAt W1 W' v (tidyL (cs.flatMap F)) := by
 have HO1 := Lib.hid HO
 have HRR := Lib.hid hR
 have HN := Lib.hid hn
 have HL := Lib.hid hl
 have HCS := Lib.hid hcs
 clear HO hR hn hl hcs
 go_enter Tryz.func35, Tryz.ntmps35
 go_wp2_with fail
 go_at_call 62
 refine HO1.out.mono ?_
 rintro e' W1 ⟨rfl, hr⟩
 obtain ⟨hi, F, hperm, hc⟩ := HRR.out _ hr
 have HTF := Lib.hid (tidy_perm (cs := cs) hperm)
 have HN := Lib.hid (Nat.le_trans (Nat.le_of_eq (flat_perm hperm cs)) HN.out)
 clear hperm
 have HR := Lib.hid hr
 have HI := Lib.hid (fun W (h : Below W1.heap.size W1 W) => hi.on h)
 obtain ⟨m3, L, e5, hm3, hL⟩ := hc
 have HE5 := Lib.hid (fun W (h : Below W1.heap.size W1 W) => show W.cell? ⟨b, 5, none⟩ = some (.map (some m3)) from (h.cell (lt_of_cell e5)).trans e5)
 have HM3 := Lib.hid (fun W (h : Below W1.heap.size W1 W) => hm3.on h hm3.lt)
 have HLL := Lib.hid (fun W (h : Below W1.heap.size W1 W) c r hg => show r.1.1 = F c ∧ Items W W.heap.size r.1.2.1 encN r.1.1 ∧ NilOk r.1.2.1 r.1.2.2 from ⟨(hL c r hg).1, (hL c r hg).2.1.on h, (hL c r hg).2.2.1⟩)
 have HV0 : RowI W1 3 1 encN (.slice none 0 0) ((cs.take 0).flatMap F) W1 := RowI.nil (Below.refl _ _)
 have b6 : (cs.length : Int) ≤ 1000000 := by have := HL.out; omega
 clear hi hr HRR HO1 e5 hm3 hL
 go_wp2_with fail
 go_loopg [5, 16] cs.length (fun g v i wr => ∃ k : Nat, k ≤ cs.length ∧ g = cs.length - k ∧ i = .int .i64 k ∧ RowI W1 3 1 encN v ((cs.take k).flatMap F) wr)
 case atStart => exact ⟨0, Nat.zero_le _, rfl, rfl, HV0⟩
 case round =>
  clear HV0
  obtain ⟨k, hk, hgk, rfl, HV⟩ := hrel
  have HGK := Lib.hid hgk
  clear hgk
  by_cases hlt : k < cs.length
  ·obtain ⟨ad, rfl, hadb, hc0, hcc⟩ := Items.at kindC.len (HI.out _ HV.1) hlt
   have d0 := hc0 _ (by decide) rfl
   have d1 := hcc 1 _ (by decide) (by decide) rfl
   have b0 : (0 : Int) ≤ (k : Int) := by omega
   have b1 : (k : Int) < (cs.length : Int) := by omega
   have HTK : Hid ((cs.take (k + 1)).flatMap F = (cs.take k).flatMap F ++ F cs[k]) := by
    unfold Hid
    rw [List.take_succ_eq_append_getElem hlt, List.flatMap_append, List.flatMap_cons, List.flatMap_nil, List.append_nil]
   have HLN : Hid (((cs.take k).flatMap F).length + (F cs[k]).length ≤ 1000000) := by
    have h1 : ((cs.take (k + 1)).flatMap F).length ≤ (cs.flatMap F).length := by
     have h := List.take_append_drop (k + 1) cs
     have h2 : (cs.flatMap F).length = ((cs.take (k + 1)).flatMap F).length + ((cs.drop (k + 1)).flatMap F).length := by
      rw [← List.length_append, ← List.flatMap_append, h]
     omega
    rw [HTK.out, List.length_append] at h1
    have := HN.out
    unfold Hid
    omega
   have HOK := Lib.hid (HCS.out _ (List.getElem_mem hlt))
   clear hc0 hcc hadb
   generalize cs[k] = c at *
   generalize (cs.take k).flatMap F = es at *
   go_upto_region 6 with (fail)
   have hb5 := (Below.refl wr.heap.size wr).alloc (Nat.le_refl _) (.cells #[.int .i64 c.1, .int .i64 c.2] 95 (0, 0))
   have hq5 := (show Hold W1 [] wr from ⟨HV.1, fun _ h => (by cases h), List.Pairwise.nil⟩).new #[.int .i64 c.1, .int .i64 c.2] 95
   have hv5 := HV.on hb5
   have hne5 := HV.row_ne (Nat.le_refl wr.heap.size)
   clear d0 d1 HV hb5
   generalize (World.alloc _ _) = W5 at hq5 hv5 ⊢
   generalize wr.heap.size = ge at hq5 hne5 ⊢
   have HNE5 := Lib.hid hne5
   have HQ5 := Lib.hid hq5.drew
   have HV5 := Lib.hid hv5.drew
   clear hq5 hv5 hne5
   refine wp_region_held_drew (S := fun W => W.cell? ⟨b, 5, none⟩ = some (.map (some m3)) ∧ W.cell? ⟨ge, 0, none⟩ = some (.int .i64 c.1) ∧ W.cell? ⟨ge, 1, none⟩ = some (.int .i64 c.2)) (by kernel_rfl) ?_ (fun hHeld => ?_)
   ·(try dsimp only)
    exact ⟨HE5.out _ HV5.out.1, HQ5.out.pt (.head _)⟩
   refine tZ 0 ?_; refine tZ 1 ?_; refine tZ 2 ?_; refine tZ 3 ?_; refine tZ 4 ?_; refine tZ 5 ?_
   refine wpAnyH_ready (rs := [6]) (by decide +kernel) (by simp) ?_
   refine AllReadyH.cons rfl (fun K hK => ?_) AllReadyH.nil
   refine step_lookG (z := cv0) (k := c) 73 36 keyC Tryz.underlying73 zeroC (HM3.out _ HV5.out.1) HOK.out (by rfl) _ _ (by rfl) (by rfl) (by rfl) ?_; intro r hgot; obtain ⟨r1, r2, r3⟩ := HLL.out _ HV5.out.1 _ _ hgot; dsimp only [cvV]
   refine hK.out _ _ ?_ (fun hHeld => ?_)
   focus ((try dsimp only); exact hHeld; done)
   clear hK K
   (try simp only [Act.put, jA, jB, jC, jD, jE, jF])
   obtain ⟨⟨ls, Al, cl⟩, ok⟩ := r
   dsimp only at r1 r2 r3
   subst r1
   refine wpAnyH_ready (rs := [7]) (by decide +kernel) (by simp) ?_
   refine AllReadyH.cons rfl (fun K hK => ?_) AllReadyH.nil
   refine step_append_itemsG kindN Tryz.underlying36 HV5.out _ _ _ r2 r3 (by have := HLN.out; unfold maxLen; omega) (by have := HLN.out; omega) rfl _ _ (by rfl) (by rfl) (by rfl) ?_; rintro v9 w9 HR9 hg9; have hq9 := Hold.grow HQ5.out HR9.1 hg9 (fun e he => by rcases List.mem_cons.1 he with rfl | he; exact HNE5.out; cases he)
   refine hK.out _ _ ?_ (fun hHeld => ?_)
   focus ((try dsimp only); exact ⟨HE5.out _ HR9.1, hq9.pt (.head _)⟩; done)
   clear hK K
   (try simp only [Act.put, jA, jB, jC, jD, jE, jF])
   refine tZ 8 ?_
   refine wpAnyH_done (by decide +kernel) ?_ _
   have HV9 := Lib.hid HR9
   clear HR9 hg9 hq9 hHeld r2 r3 ok hgot HQ5 HV5
   go_wp2_with fail
   go_roundg (cs.length - (k + 1))
   case measure => have := HGK.out; omega
   case rel => exact ⟨k + 1, by omega, rfl, by go_num, by rw [HTK.out]; exact HV9.out⟩
  ·obtain rfl : k = cs.length := by omega
   rw [List.take_length] at HV
   have HK := Lib.hid HV
   clear HV HI HE5 HM3 HLL
   generalize hes : cs.flatMap F = es at HK HN ⊢
   have HES := Lib.hid hes
   clear hes
   have HS := Lib.hid (sortZ_any W1 wr _ es HN.out HK.out)
   go_wp2_with fail
   go_at_call 64
   refine HS.out.mono ?_
   rintro e' W3 ⟨rfl, h3⟩
   rcases h3 with ⟨h4, h5, h6⟩ | ⟨g, cap, h4, h5, h6, h7⟩
   ·subst h4
    subst h5
    have HB := Lib.hid h6
    have HCM := Lib.hid (Tryz.slices_Compact_int_empty none 0 W3)
    have HT : Hid (tidyL [] = []) := by unfold Hid; decide +kernel
    clear h6 HS HK
    go_wp2_with fail
    go_at_call 65
    refine HCM.out.mono ?_
    rintro e' W4 ⟨rfl, rfl⟩
    go_wp2_with fail
    refine bodyPost_ret (v := .slice none 0 0) ?_ rfl ⟨W1, HR.out, _, rfl, .inl ⟨HTF.out.symm.trans ((congrArg tidyL HES.out).trans HT.out), rfl, HB.out⟩⟩
    simp [results, Tryz.results35, go_sem]
   ·subst h4
    have hp : (es.mergeSort fun x y => decide (x ≤ y)).length = es.length := (List.mergeSort_perm es _).length_eq
    have hcm := compZ_any W1 W3 g cap _ h7 (by rw [hp]; exact h6) (by rw [hp]; exact h5)
    rw [hp] at hcm
    have HCM := Lib.hid hcm
    have HLE := Lib.hid (show (tidyL es).length ≤ es.length from hp ▸ Lib.compact_length_le _)
    have h5' := Lib.hid h5
    have h6' := Lib.hid h6
    clear hcm h7 HS HK h5 h6 hp
    go_wp2_with fail
    go_at_call 65
    refine HCM.out.mono ?_
    rintro e' W4 ⟨rfl, hz⟩
    have HZ := Lib.hid hz
    clear hz
    go_wp2_with fail
    refine bodyPost_ret (v := .slice (some ⟨g, 0, none⟩) (tidyL es).length cap) ?_ rfl ⟨W1, HR.out, _, rfl, by rw [← HTF.out, HES.out]; exact .inr ⟨g, cap, rfl, Nat.le_trans HLE.out h5'.out, Nat.le_trans HLE.out h6'.out, HZ.out⟩⟩
    simp [results, Tryz.results35, go_sem, tidyL]
end Go.Proofs.YtoabooljgojoiabGreat

namespace Go.Proofs.YtoabooljgojoiabGreat
open Go.RowKit
theorem grew_of {w W : World} (h : Below w.heap.size w W) (b : Option Nat) : w.grownBy W b := ⟨h.os, h.tape, h.output, h.size, fun k hk _ => h.block k hk⟩
theorem items_cells {W : World} {g : Nat} {ws : List Int} (hg : g < W.heap.size) (h : ∀ j, j < ws.length → W.cell? ⟨g, 0 + j, none⟩ = some (.int .i64 ws[j]!)) : Items W W.heap.size (some ⟨g, 0, none⟩) encN ws := fun _ => ⟨_, rfl, hg, fun j u hu => by
 have hj : j < ws.length := by
  have h1 := (List.getElem?_eq_some_iff.1 hu).1
  rw [flat_len (enc := encN) (n := 1) (fun _ => rfl), Nat.mul_one] at h1
  exact h1
 have h3 := flat_get (enc := encN) (n := 1) (fun _ => rfl) ws j ws[j] 0 (List.getElem?_eq_getElem hj) (by omega)
 rw [Nat.mul_one, Nat.add_zero, hu] at h3
 have h4 := h j hj
 rw [getElem!_pos ws j hj] at h4
 rw [add_off]
 rw [Nat.zero_add] at h4
 exact h4.trans h3.symm⟩
set_option maxRecDepth 100000 in
set_option maxHeartbeats 2000000 in
theorem foundL_any (b m1 m2 : Nat) (n : Int) (l' : List PV) (cs : List (Int × Int)) (Ac : Option Addr) (cc : Nat) (F : (Int × Int) → List Int) (p : Int → Bool) (qp : Value) (w : World) (hb : b < w.heap.size)
  (HO : ∀ W, Below w.heap.size w W → Calls Tryz.prog 62 #[.pointer (some ⟨b, 2, none⟩), .func (.func 63) #[.pointer (some ⟨b, 0, none⟩)] #[]] W fun e W' => e = .returned (.tuple #[]) ∧ (W.grownBy W' (some b) ∧ IdxD W' b m1 m2 n F))
  (hi : Items w w.heap.size Ac encP cs) (hne : ∀ ad, Ac = some ad → some b ≠ some ad.block) (hm : MapIs w m1 iv rvV In64 (ringL l')) (hmb : some m1 ≠ some b)
  (hn : (cs.flatMap F).length ≤ 1000000) (hl : cs.length ≤ 1000000) (hcs : ∀ c ∈ cs, OkP c) (hin : ∀ c ∈ cs, ∀ z ∈ F c, In64 z)
  (ring : Int → PV) (hring : ∀ id r, Got (ringL l') noRing id r → r.1 = ring id)
  (hc : ∀ W id, w.grownBy W (some b) → In64 id → Calls Tryz.prog 41 #[rvV (ring id), qp] W fun e W' => e = .returned (.bool (p id)) ∧ Below W.heap.size W W') :
  Calls Tryz.prog 15 #[.pointer (some ⟨b, 0, none⟩), .slice Ac cs.length cc, .func (.func 41) #[] #[qp]] w fun e W' => ∃ v, e = .returned v ∧ w.grownBy W' (some b) ∧ IdxD W' b m1 m2 n F ∧ ∃ A cap, v = .slice A ((tidyL (cs.flatMap F)).filter p).length cap ∧ Items W' W'.heap.size A encN ((tidyL (cs.flatMap F)).filter p) ∧ ∀ ad, A = some ad → some b ≠ some ad.block := by
 have HQ := ((Hold.refl w).new #[.pointer (some ⟨b, 0, none⟩)] 31).new' #[.func (.func 41) #[] #[qp]] 56 (n := w.heap.size + 1) (by simp)
 have HNR := Lib.hid (fun W1 (hq : Hold w [(w.heap.size + 1, #[.func (.func 41) #[] #[qp]], 56), (w.heap.size, #[.pointer (some ⟨b, 0, none⟩)], 31)] W1) => near_any b cs Ac cc (fun W' => W1.grownBy W' (some b) ∧ IdxD W' b m1 m2 n F) F W1 (HO W1 hq.1)
  (fun W hW => ⟨((hi.on hq.1).but hW.1 hne).wide hW.1.size, hW.2.cells⟩) hn hl hcs)
 have HM := Lib.hid (fun W (h : w.grownBy W (some b)) => hm.kept h hmb)
 have HC := Lib.hid hc
 have HRG := Lib.hid hring
 have HB := Lib.hid hb
 have HIN : Hid (∀ z ∈ tidyL (cs.flatMap F), In64 z) := fun z hz => by
  obtain ⟨c, h1, h2⟩ := List.mem_flatMap.1 (((tidy_says _).2 z).1 hz)
  exact hin c h1 z h2
 clear HO hi hne hm hmb hn hl hcs hin hring hc hb
 go_enter Tryz.func15, Tryz.ntmps15
 go_upto_region 1 with (fail)
 have HNR1 := Lib.hid (HNR.out _ HQ)
 generalize (World.alloc _ _) = W1 at HQ HNR1 ⊢
 obtain ⟨g0, hg0⟩ : ∃ g, w.heap.size = g := ⟨_, rfl⟩
 obtain ⟨g1, hg1⟩ : ∃ g, w.heap.size + 1 = g := ⟨_, rfl⟩
 have HBG : Hid (b < g0 ∧ b < g1) := by have := HB.out; unfold Hid; omega
 rw [hg1, hg0] at HQ ⊢
 clear HNR HB hg1 hg0
 have c0 := HQ.cell (.tail _ (.head _)) 0
 have hq0 := (HQ.2.1 _ (.tail _ (.head _))).1
 have hq1 := (HQ.2.1 _ (.head _)).1
 have HB0 := Lib.hid HQ.1
 obtain ⟨c1, c2⟩ := HBG.out
 go_wp2_with fail
 go_at_call 35
 refine HNR1.out.mono ?_
 rintro e' W3 ⟨W2, ⟨hg, hca⟩, v, rfl, hnear⟩
 have hb0 := hca.rings
 have hw2 : w.grownBy W2 (some b) := (grew_of HB0.out _).trans hg
 have k0 := (hg.block g0 (blk_lt hq0) (fun e => by have := Option.some.inj e; omega)).trans hq0
 have k1 := (hg.block g1 (blk_lt hq1) (fun e => by have := Option.some.inj e; omega)).trans hq1
 have HK0 := Lib.hid k0
 have HK1 := Lib.hid k1
 have HW2 := Lib.hid hw2
 have HCA := Lib.hid hca
 have HB2 := Lib.hid hb0
 have HNA := Lib.hid hnear
 have HD : Hid (∀ W', Below W2.heap.size W2 W' → ∀ id, In64 id → Calls Tryz.prog 36 #[.int .i64 id, .pointer (some ⟨g1, 0, none⟩), .pointer (some ⟨g0, 0, none⟩)] W' fun e W'' => ∃ b', e = .returned (.bool b') ∧ (b' = true ↔ (!p id) = true) ∧ Below W'.heap.size W' W'') := fun W' hb' id hid => by
  have hgr : ∀ W, Below W'.heap.size W' W → w.grownBy W (some b) := fun W hW => hw2.trans (grew_of (hb'.trans (hW.mono hb'.size)) _)
  refine (fndL_any l' b m1 g1 g0 qp id (ring id) (p id) hid (HRG.out id) W' (HM.out W' (hgr W' (Below.refl _ _))) ((hb'.cell (p := ⟨g1, 0, none⟩) (blk_lt k1)).trans (blk_cell k1 0)) ((hb'.cell (p := ⟨g0, 0, none⟩) (blk_lt k0)).trans (blk_cell k0 0)) ((hb'.cell (p := ⟨b, 0, none⟩) (lt_of_cell hb0)).trans hb0) (fun W hW => HC.out W id (hgr W hW) hid)).mono ?_
  rintro e W'' ⟨rfl, h⟩
  exact ⟨_, rfl, Iff.rfl, h⟩
 have HFF : Hid (∀ zs : List Int, (zs.filter fun z => !(!p z)) = zs.filter p) := fun zs => by simp
 clear hg hca hb0 hnear hw2 k0 k1 hq0 hq1 c0 c1 c2 HQ HNR1
 rcases HNA.out with ⟨h1, h2, h3⟩ | ⟨g, cap, h2, hcap, hml, hz⟩
 ·have HDN := Lib.hid (fun q1 q2 => delZ_nil q1 q2 W3)
  have HE := Lib.hid h1
  have HB3 := Lib.hid h3
  subst h2
  clear h1 h3 HNA
  go_wp2_with fail
  go_at_call 34
  refine (HDN.out _ _).mono ?_
  rintro e' W4 ⟨rfl, rfl⟩
  go_wp2_with fail
  refine bodyPost_ret (v := .slice none 0 0) ?_ rfl ⟨_, rfl, HW2.out.trans (grew_of HB3.out _), HCA.out.on HB3.out, none, 0, by rw [HE.out]; rfl, by rw [HE.out]; exact Items.nil _ _ _ _, fun _ h => (nomatch h)⟩
  simp [results, Tryz.results15, go_sem]
 ·have HDZ := Lib.hid (delZ_any (fun z => !p z) (fun z => (!p z) = true) (fun _ => Iff.rfl) W2 W3 (.pointer (some ⟨g1, 0, none⟩)) (.pointer (some ⟨g0, 0, none⟩)) _ g 0 cap hz HIN.out hml hcap HD.out)
  subst h2
  have HFR : Hid (g ≠ b) := by
   have h8 := hz.2.1
   have h9 := lt_of_cell HB2.out
   unfold Hid
   omega
  clear hz hcap hml HNA
  go_wp2_with fail
  go_at_call 34
  refine HDZ.out.mono ?_
  rintro e' W4 ⟨rfl, h5, h6, h7⟩
  rw [HFF.out] at h7 ⊢
  have HB4 := Lib.hid h5
  have HI4 := Lib.hid (items_cells h6 h7)
  clear h5 h6 h7
  go_wp2_with fail
  refine bodyPost_ret (v := .slice (some ⟨g, 0, none⟩) ((tidyL (cs.flatMap F)).filter p).length cap) ?_ rfl ⟨_, rfl, HW2.out.trans (grew_of HB4.out _), HCA.out.on HB4.out, _, _, rfl, HI4.out, fun ad e e2 => HFR.out (by obtain rfl := Option.some.inj e; exact (Option.some.inj e2).symm)⟩
  simp [results, Tryz.results15, go_sem]
set_option maxRecDepth 100000 in
set_option maxHeartbeats 2000000 in
theorem foundW_any (b m1 m2 : Nat) (n : Int) (l' : List PV) (cs : List (Int × Int)) (Ac : Option Addr) (cc : Nat) (F : (Int × Int) → List Int) (p : Int → Bool) (qp : Value) (w : World) (hb : b < w.heap.size)
  (HO : ∀ W, Below w.heap.size w W → Calls Tryz.prog 62 #[.pointer (some ⟨b, 2, none⟩), .func (.func 63) #[.pointer (some ⟨b, 0, none⟩)] #[]] W fun e W' => e = .returned (.tuple #[]) ∧ (W.grownBy W' (some b) ∧ IdxD W' b m1 m2 n F))
  (hi : Items w w.heap.size Ac encP cs) (hne : ∀ ad, Ac = some ad → some b ≠ some ad.block) (hm : MapIs w m1 iv rvV In64 (ringL l')) (hmb : some m1 ≠ some b)
  (hn : (cs.flatMap F).length ≤ 1000000) (hl : cs.length ≤ 1000000) (hcs : ∀ c ∈ cs, OkP c) (hin : ∀ c ∈ cs, ∀ z ∈ F c, In64 z)
  (ring : Int → PV) (hring : ∀ id r, Got (ringL l') noRing id r → r.1 = ring id)
  (hc : ∀ W id, w.grownBy W (some b) → In64 id → Calls Tryz.prog 16 #[rvV (ring id), qp] W fun e W' => e = .returned (.bool (p id)) ∧ Below W.heap.size W W') :
  Calls Tryz.prog 15 #[.pointer (some ⟨b, 0, none⟩), .slice Ac cs.length cc, .func (.func 16) #[] #[qp]] w fun e W' => ∃ v, e = .returned v ∧ w.grownBy W' (some b) ∧ IdxD W' b m1 m2 n F ∧ ∃ A cap, v = .slice A ((tidyL (cs.flatMap F)).filter p).length cap ∧ Items W' W'.heap.size A encN ((tidyL (cs.flatMap F)).filter p) ∧ ∀ ad, A = some ad → some b ≠ some ad.block := by
 have HQ := ((Hold.refl w).new #[.pointer (some ⟨b, 0, none⟩)] 31).new' #[.func (.func 16) #[] #[qp]] 56 (n := w.heap.size + 1) (by simp)
 have HNR := Lib.hid (fun W1 (hq : Hold w [(w.heap.size + 1, #[.func (.func 16) #[] #[qp]], 56), (w.heap.size, #[.pointer (some ⟨b, 0, none⟩)], 31)] W1) => near_any b cs Ac cc (fun W' => W1.grownBy W' (some b) ∧ IdxD W' b m1 m2 n F) F W1 (HO W1 hq.1)
  (fun W hW => ⟨((hi.on hq.1).but hW.1 hne).wide hW.1.size, hW.2.cells⟩) hn hl hcs)
 have HM := Lib.hid (fun W (h : w.grownBy W (some b)) => hm.kept h hmb)
 have HC := Lib.hid hc
 have HRG := Lib.hid hring
 have HB := Lib.hid hb
 have HIN : Hid (∀ z ∈ tidyL (cs.flatMap F), In64 z) := fun z hz => by
  obtain ⟨c, h1, h2⟩ := List.mem_flatMap.1 (((tidy_says _).2 z).1 hz)
  exact hin c h1 z h2
 clear HO hi hne hm hmb hn hl hcs hin hring hc hb
 go_enter Tryz.func15, Tryz.ntmps15
 go_upto_region 1 with (fail)
 have HNR1 := Lib.hid (HNR.out _ HQ)
 generalize (World.alloc _ _) = W1 at HQ HNR1 ⊢
 obtain ⟨g0, hg0⟩ : ∃ g, w.heap.size = g := ⟨_, rfl⟩
 obtain ⟨g1, hg1⟩ : ∃ g, w.heap.size + 1 = g := ⟨_, rfl⟩
 have HBG : Hid (b < g0 ∧ b < g1) := by have := HB.out; unfold Hid; omega
 rw [hg1, hg0] at HQ ⊢
 clear HNR HB hg1 hg0
 have c0 := HQ.cell (.tail _ (.head _)) 0
 have hq0 := (HQ.2.1 _ (.tail _ (.head _))).1
 have hq1 := (HQ.2.1 _ (.head _)).1
 have HB0 := Lib.hid HQ.1
 obtain ⟨c1, c2⟩ := HBG.out
 go_wp2_with fail
 go_at_call 35
 refine HNR1.out.mono ?_
 rintro e' W3 ⟨W2, ⟨hg, hca⟩, v, rfl, hnear⟩
 have hb0 := hca.rings
 have hw2 : w.grownBy W2 (some b) := (grew_of HB0.out _).trans hg
 have k0 := (hg.block g0 (blk_lt hq0) (fun e => by have := Option.some.inj e; omega)).trans hq0
 have k1 := (hg.block g1 (blk_lt hq1) (fun e => by have := Option.some.inj e; omega)).trans hq1
 have HK0 := Lib.hid k0
 have HK1 := Lib.hid k1
 have HW2 := Lib.hid hw2
 have HCA := Lib.hid hca
 have HB2 := Lib.hid hb0
 have HNA := Lib.hid hnear
 have HD : Hid (∀ W', Below W2.heap.size W2 W' → ∀ id, In64 id → Calls Tryz.prog 36 #[.int .i64 id, .pointer (some ⟨g1, 0, none⟩), .pointer (some ⟨g0, 0, none⟩)] W' fun e W'' => ∃ b', e = .returned (.bool b') ∧ (b' = true ↔ (!p id) = true) ∧ Below W'.heap.size W' W'') := fun W' hb' id hid => by
  have hgr : ∀ W, Below W'.heap.size W' W → w.grownBy W (some b) := fun W hW => hw2.trans (grew_of (hb'.trans (hW.mono hb'.size)) _)
  refine (fndW_any l' b m1 g1 g0 qp id (ring id) (p id) hid (HRG.out id) W' (HM.out W' (hgr W' (Below.refl _ _))) ((hb'.cell (p := ⟨g1, 0, none⟩) (blk_lt k1)).trans (blk_cell k1 0)) ((hb'.cell (p := ⟨g0, 0, none⟩) (blk_lt k0)).trans (blk_cell k0 0)) ((hb'.cell (p := ⟨b, 0, none⟩) (lt_of_cell hb0)).trans hb0) (fun W hW => HC.out W id (hgr W hW) hid)).mono ?_
  rintro e W'' ⟨rfl, h⟩
  exact ⟨_, rfl, Iff.rfl, h⟩
 have HFF : Hid (∀ zs : List Int, (zs.filter fun z => !(!p z)) = zs.filter p) := fun zs => by simp
 clear hg hca hb0 hnear hw2 k0 k1 hq0 hq1 c0 c1 c2 HQ HNR1
 rcases HNA.out with ⟨h1, h2, h3⟩ | ⟨g, cap, h2, hcap, hml, hz⟩
 ·have HDN := Lib.hid (fun q1 q2 => delZ_nil q1 q2 W3)
  have HE := Lib.hid h1
  have HB3 := Lib.hid h3
  subst h2
  clear h1 h3 HNA
  go_wp2_with fail
  go_at_call 34
  refine (HDN.out _ _).mono ?_
  rintro e' W4 ⟨rfl, rfl⟩
  go_wp2_with fail
  refine bodyPost_ret (v := .slice none 0 0) ?_ rfl ⟨_, rfl, HW2.out.trans (grew_of HB3.out _), HCA.out.on HB3.out, none, 0, by rw [HE.out]; rfl, by rw [HE.out]; exact Items.nil _ _ _ _, fun _ h => (nomatch h)⟩
  simp [results, Tryz.results15, go_sem]
 ·have HDZ := Lib.hid (delZ_any (fun z => !p z) (fun z => (!p z) = true) (fun _ => Iff.rfl) W2 W3 (.pointer (some ⟨g1, 0, none⟩)) (.pointer (some ⟨g0, 0, none⟩)) _ g 0 cap hz HIN.out hml hcap HD.out)
  subst h2
  have HFR : Hid (g ≠ b) := by
   have h8 := hz.2.1
   have h9 := lt_of_cell HB2.out
   unfold Hid
   omega
  clear hz hcap hml HNA
  go_wp2_with fail
  go_at_call 34
  refine HDZ.out.mono ?_
  rintro e' W4 ⟨rfl, h5, h6, h7⟩
  rw [HFF.out] at h7 ⊢
  have HB4 := Lib.hid h5
  have HI4 := Lib.hid (items_cells h6 h7)
  clear h5 h6 h7
  go_wp2_with fail
  refine bodyPost_ret (v := .slice (some ⟨g, 0, none⟩) ((tidyL (cs.flatMap F)).filter p).length cap) ?_ rfl ⟨_, rfl, HW2.out.trans (grew_of HB4.out _), HCA.out.on HB4.out, _, _, rfl, HI4.out, fun ad e e2 => HFR.out (by obtain rfl := Option.some.inj e; exact (Option.some.inj e2).symm)⟩
  simp [results, Tryz.results15, go_sem]
end Go.Proofs.YtoabooljgojoiabGreat

namespace Go.Proofs.YtoabooljgojoiabGreat
open Go.RowKit Go.ChangeMaps Go.MapKept
def MapSj {α β : Type} (W : World) (b : Nat) (ek : α → Value) (ev : β → Value) (Ok : α → Prop) (l : List (α × β)) (j st : Nat) : Prop :=
 ∃ es clock, W.heap[b]? = some (.map es clock) ∧ es.toList.map (fun e => (e.key, e.val)) = l.map (fun p => (ek p.1, ev p.2)) ∧ Stamped es clock ∧ (∀ p ∈ l, Ok p.1) ∧ ∃ x, es.toList[j]? = some x ∧ x.born = st
section
variable {α β : Type} {T : TypeId} {ek : α → Value} {ev : β → Value} {Ok : α → Prop} {W W' : World} {b : Nat} {l : List (α × β)} {j st : Nat} {t e : TypeId}
theorem MapSj.isMap (h : MapSj W b ek ev Ok l j st) : MapIs W b ek ev Ok l := by
 obtain ⟨es, c, h1, h2, h3, h4, _⟩ := h
 exact ⟨es, c, h1, h2, h3, h4⟩
theorem MapSj.at (h : MapSj W b ek ev Ok l j st) (hh : W'.heap[b]? = W.heap[b]?) : MapSj W' b ek ev Ok l j st := by
 obtain ⟨es, c, h1, h2⟩ := h
 exact ⟨es, c, hh.trans h1, h2⟩
theorem MapSj.kept {row : Option Nat} (h : MapSj W b ek ev Ok l j st) (hg : W.grownBy W' row) (hne : some b ≠ row) : MapSj W' b ek ev Ok l j st := h.at (hg.block b h.isMap.lt hne)
theorem MapSj.alloc (h : MapSj W b ek ev Ok l j st) (o : Obj) : MapSj (W.alloc o) b ek ev Ok l j st := h.at (Below.heap_alloc W o b h.isMap.lt)
theorem MapIs.entryF (h : MapIs W b ek ev Ok l) (K : KeyK T ek Ok) (ht : Tryz.prog.underlying t = some (.map T e)) {z : β} (hz : ∀ u, (zeroValue e).run Tryz.prog u = .ok (ev z) u) {a : α} (ha : Ok a) :
  ∃ st W1 l1 j p, (Instr.mapEntry t (.map (some b)) (ek a)).run Tryz.prog W = .ok (.tuple #[ev p.2, .int .i64 (st : Nat)]) W1 ∧ (l1 = l ∨ (a ∉ l.map Prod.fst ∧ l1 = l ++ [(a, z)])) ∧ l1[j]? = some p ∧ p.1 = a ∧ MapSj W1 b ek ev Ok l1 j st ∧ W.grownBy W1 (some b) ∧ W1.heap.size = W.heap.size := by
 obtain ⟨es, c, hb, hl, hs, hok⟩ := h
 obtain ⟨kl, hkey⟩ := K.lit a ha
 have hks : ∀ x ∈ es.toList, ∃ y, keyOf Tryz.prog T x.key = some y := fun x hx => by
  obtain ⟨p, hp, e1, _⟩ := entry_of hl hx
  rw [e1]
  exact K.lit _ (hok p hp)
 have hlen : es.toList.length = l.length := by rw [← List.length_map (f := fun e : MapEntry => (e.key, e.val)), hl, List.length_map]
 rcases K.K.find W hkey es.toList hks with ⟨h1, h2⟩ | ⟨j, e0, h1, h2, h3⟩
 ·have hn : a ∉ l.map Prod.fst := fun hm => by
   obtain ⟨p, hp, e1⟩ := List.mem_map.1 hm
   obtain ⟨x, hx, e2, _⟩ := of_entry hl hp
   exact h2 x hx (by rw [e2, e1])
  refine ⟨c, setBlock W b (.map (es.push ⟨ek a, ev z, c⟩) (c + 1)), l ++ [(a, z)], l.length, (a, z), ?_, .inr ⟨hn, rfl⟩, by simp, rfl, ⟨_, _, heap_setBlock_same hb _, ?_, stamped_push hs h2, ?_, ⟨ek a, ev z, c⟩, by rw [Array.toList_push, ← hlen]; simp, rfl⟩, ⟨rfl, rfl, rfl, by simp [setBlock], fun i _ hi => heap_setBlock_other hb _ (fun e => hi (by rw [e]))⟩, by simp [setBlock]⟩
  ·simp [Instr.mapEntry, run_underlying ht, MapKept.run_getObj_map hb, K.K.check W false hkey, h1, hz, MapKept.run_setObj_map _ hb, Result.andThen, setBlock, goInt]
  ·rw [Array.toList_push, List.map_append, List.map_append, hl]; rfl
  ·intro p hp
   rcases List.mem_append.1 hp with hp | hp
   ·exact hok p hp
   ·rw [List.mem_singleton.1 hp]; exact ha
 ·have hj : es[j]? = some e0 := by simpa using h2
  have hsame : es.modify j (fun e => { e with key := ek a }) = es := by
   apply Array.ext'
   rw [Array.toList_modify, modify_eq_set _ _ _ _ h2]
   have : ({ e0 with key := ek a } : MapEntry) = e0 := by rw [← h3]
   rw [this]
   exact Go.WideElems.set_self _ _ _ h2
  have hjl : j < l.length := by
   have := (List.getElem?_eq_some_iff.1 h2).1
   omega
  have hp : l[j]? = some l[j] := List.getElem?_eq_getElem hjl
  generalize l[j] = p at hp
  have e12 : e0.key = ek p.1 ∧ e0.val = ev p.2 := by
   have := congrArg (fun q => q[j]?) hl
   simp only [List.getElem?_map, h2, hp, Option.map_some] at this
   exact ⟨congrArg Prod.fst (Option.some.inj this), congrArg Prod.snd (Option.some.inj this)⟩
  have e3 : p.1 = a := K.inj _ _ (by rw [← e12.1, h3])
  have e2 := e12.2
  refine ⟨e0.born, setBlock W b (.map es c), l, j, p, ?_, .inl rfl, hp, e3, ⟨_, _, heap_setBlock_same hb _, hl, hs, hok, e0, h2, rfl⟩, ⟨rfl, rfl, rfl, by simp [setBlock], fun i _ hi => heap_setBlock_other hb _ (fun e => hi (by rw [e]))⟩, by simp [setBlock]⟩
  simp [Instr.mapEntry, run_underlying ht, MapKept.run_getObj_map hb, K.K.check W false hkey, h1, hj, h3, K.K.stays W hkey, hsame, MapKept.run_setObj_map _ hb, Result.andThen, setBlock, goInt, e2]
theorem MapSj.store (h : MapSj W b ek ev Ok l j st) (t : TypeId) {p : α × β} (hp : l[j]? = some p) (y : β) :
  ∃ W1, (Instr.entryStore t (.map (some b)) (.int .i64 (st : Nat)) (ev y)).run Tryz.prog W = .ok () W1 ∧ MapIs W1 b ek ev Ok (l.set j (p.1, y)) ∧ W.grownBy W1 (some b) ∧ W1.heap.size = W.heap.size := by
 obtain ⟨es, c, hb, hl, hs, hok, x, hj, rfl⟩ := h
 have hidx : es.findIdx? (fun e => ((e.born : Nat) : Int) == ((x.born : Nat) : Int)) = some j := by
  rw [Go.WideElems.findIdx_arr]
  exact Go.WideElems.findIdx_born ((stamped_iff es c).1 hs).2.1 hj
 have hkp : x.key = ek p.1 := by
  have := congrArg (fun q => q[j]?) hl
  simp only [List.getElem?_map, hj, hp, Option.map_some] at this
  exact congrArg Prod.fst (Option.some.inj this)
 have hlist : (es.modify j (fun e' => { e' with val := ev y })).toList = es.toList.set j { x with val := ev y } := by rw [Array.toList_modify, modify_eq_set _ _ _ _ hj]
 refine ⟨setBlock W b (.map (es.modify j fun e => { e with val := ev y }) c), ?_, ⟨_, _, heap_setBlock_same hb _, ?_, stamped_modify hs _ _ (fun _ _ => rfl) (fun _ _ _ => rfl), ?_⟩, ⟨rfl, rfl, rfl, by simp [setBlock], fun i _ hi => heap_setBlock_other hb _ (fun e => hi (by rw [e]))⟩, by simp [setBlock]⟩
 ·simp [Instr.entryStore, MapKept.run_getObj_map hb, asInt, asIntOf, hidx, MapKept.run_setObj_map _ hb, Result.andThen, setBlock]
 ·rw [hlist]
  exact set_of hl j (by show (x.key, ev y) = (ek p.1, ev y); rw [hkp])
 ·intro q hq
  rcases List.mem_or_eq_of_mem_set hq with h | rfl
  ·exact hok q h
  ·exact hok p (List.mem_of_getElem? hp)
end
section
variable {α β : Type} {T : TypeId} {ek : α → Value} {ev : β → Value} {Ok : α → Prop} {W : World} {b : Nat} {l : List (α × β)} {j st : Nat} {ops : Array Oper} {o : Oper} {a : Act} {KK : Act → World → Prop} {Q : Exit → Act → World → Prop} {E : Prop}
theorem step_entryF (t e : TypeId) (K : KeyK T ek Ok) (ht : Tryz.prog.underlying t = some (.map T e)) {z : β} (hz : ∀ u, (zeroValue e).run Tryz.prog u = .ok (ev z) u) (h : MapIs W b ek ev Ok l) {k : α} (hk : Ok k) (hgd : o.guard = none) (m x : Operand) (hop : o.op = Op.mapEntry t m x)
  (hm : a.eval m = .map (some b)) (hx : a.eval x = ek k) (hK : ∀ (st : Nat) (W1 : World) (l1 : List (α × β)) (j : Nat) (p : α × β), (l1 = l ∨ (k ∉ l.map Prod.fst ∧ l1 = l ++ [(k, z)])) → l1[j]? = some p → p.1 = k → MapSj W1 b ek ev Ok l1 j st → W.grownBy W1 (some b) → KK (a.put o.dst (.tuple #[ev p.2, .int .i64 (st : Nat)])) W1) :
  if Region.wanted o (yielded ops a.tmps) = true then Oper.wp Tryz.prog o a W KK Q else E := by
 rw [if_pos (wanted_of hgd)]
 obtain ⟨st, W1, l1, j, p, hrun, h1, h2, h3, h4, h5, _⟩ := h.entryF K ht hz hk
 unfold Oper.wp
 simp [execOp, hop, hm, hx, hrun, Result.andThen]
 exact hK st W1 l1 j p h1 h2 h3 h4 h5
theorem step_estoreF (t : TypeId) (h : MapSj W b ek ev Ok l j st) {p : α × β} (hp : l[j]? = some p) (y : β) (hgd : o.guard = none) (m s x : Operand) (hop : o.op = Op.entryStore t m s x)
  (hm : a.eval m = .map (some b)) (hs : a.eval s = .int .i64 (st : Nat)) (hx : a.eval x = ev y) (hK : ∀ (W1 : World), MapIs W1 b ek ev Ok (l.set j (p.1, y)) → W.grownBy W1 (some b) → KK (a.put o.dst undef) W1) :
  if Region.wanted o (yielded ops a.tmps) = true then Oper.wp Tryz.prog o a W KK Q else E := by
 rw [if_pos (wanted_of hgd)]
 obtain ⟨W1, hrun, h1, h2, _⟩ := h.store t hp y
 unfold Oper.wp
 simp [execOp, hop, hm, hs, hx, hrun, Result.andThen]
 exact hK W1 h1 h2
end
end Go.Proofs.YtoabooljgojoiabGreat

namespace Go.Proofs.YtoabooljgojoiabGreat
open Go.RowKit
abbrev CRow := (Int × Int) × (List Int × Option Addr × Nat)
structure OwnRw (w0 W : World) (L : List CRow) : Prop where
 own : ∀ (i : Nat) (p : CRow), L[i]? = some p → W.ownsRow w0.heap.size 3 1 (cvV p.2) p.2.1.length (p.2.1.flatMap encN)
 apart : ∀ (i k : Nat) (p q : CRow), L[i]? = some p → L[k]? = some q → i ≠ k → (cvV p.2).ownBlock = none ∨ (cvV p.2).ownBlock ≠ (cvV q.2).ownBlock
theorem OwnRw.nil (w0 W : World) : OwnRw w0 W [] := ⟨fun i p h => by simp at h, fun i k p q h => by simp at h⟩
theorem OwnRw.more {w0 W : World} {L : List CRow} (h : OwnRw w0 W L) (c : Int × Int) : OwnRw w0 W (L ++ [(c, cv0)]) := by
 have key : ∀ (i : Nat) (p : CRow), (L ++ [(c, cv0)])[i]? = some p → L[i]? = some p ∨ p = (c, cv0) := fun i p hp => by
  rcases Nat.lt_or_ge i L.length with hi | hi
  ·rw [List.getElem?_append_left hi] at hp; exact .inl hp
  ·rw [List.getElem?_append_right hi] at hp
   exact .inr (List.mem_singleton.1 (List.mem_of_getElem? hp))
 have hlast : ∀ (i : Nat) (p : CRow), (L ++ [(c, cv0)])[i]? = some p → (cvV p.2).ownBlock = none ∨ L[i]? = some p := fun i p hp => by
  rcases key i p hp with h | rfl
  ·exact .inr h
  ·exact .inl rfl
 refine ⟨fun i p hp => ?_, fun i k p q hp hq hne => ?_⟩
 ·rcases key i p hp with h1 | rfl
  ·exact h.own i p h1
  ·exact World.ownsRow_nil _ _ _ _
 ·rcases hlast i p hp with h1 | h1
  ·exact .inl h1
  ·rcases hlast k q hq with h2 | h2
   ·cases e : (cvV p.2).ownBlock with
    |none => exact .inl rfl
    |some g => exact .inr (by rw [h2]; simp)
   ·exact h.apart i k p q h1 h2 hne
theorem OwnRw.but {w0 W W' : World} {L : List CRow} (h : OwnRw w0 W L) {row : Option Nat} (hg : W.grownBy W' row) (hne : ∀ (i : Nat) (p : CRow), L[i]? = some p → (cvV p.2).ownBlock = none ∨ (cvV p.2).ownBlock ≠ row) : OwnRw w0 W' L :=
 ⟨fun i p hp => (h.own i p hp).kept hg (hne i p hp), h.apart⟩
theorem OwnRw.grow {w0 W W' : World} {L : List CRow} (h : OwnRw w0 W L) {j : Nat} {p : CRow} (hj : L[j]? = some p) (hg : W.grownBy W' (cvV p.2).ownBlock) {r' : List Int × Option Addr × Nat} (hr : W'.ownsRow w0.heap.size 3 1 (cvV r') r'.1.length (r'.1.flatMap encN))
  (hat : (cvV r').ownBlock = (cvV p.2).ownBlock ∨ ∃ g, (cvV r').ownBlock = some g ∧ W.heap.size ≤ g) : OwnRw w0 W' (L.set j (p.1, r')) := by
 have hjl : j < L.length := (List.getElem?_eq_some_iff.1 hj).1
 have key : ∀ (i : Nat) (q : CRow), (L.set j (p.1, r'))[i]? = some q → (i = j ∧ q = (p.1, r')) ∨ (i ≠ j ∧ L[i]? = some q) := fun i q hq => by
  by_cases e : i = j
  ·subst e
   rw [List.getElem?_set_self hjl] at hq
   exact .inl ⟨rfl, (Option.some.inj hq).symm⟩
  ·rw [List.getElem?_set_ne (fun h => e h.symm)] at hq
   exact .inr ⟨e, hq⟩
 have hnew : ∀ (i : Nat) (q : CRow), L[i]? = some q → i ≠ j → (cvV q.2).ownBlock = none ∨ (cvV q.2).ownBlock ≠ (cvV r').ownBlock := fun i q hq hne => by
  rcases hat with e | ⟨g, e, hgs⟩
  ·rw [e]; exact h.apart i j q p hq hj hne
  ·cases e2 : (cvV q.2).ownBlock with
   |none => exact .inl rfl
   |some k =>
    refine .inr fun e3 => ?_
    rw [e] at e3
    have h1 := (h.own i q hq).lt k e2
    have h2 := Option.some.inj e3
    omega
 refine ⟨fun i q hq => ?_, fun i k q q' hq hq' hne => ?_⟩
 ·rcases key i q hq with ⟨-, rfl⟩ | ⟨h1, h2⟩
  ·exact hr
  ·exact (h.own i q h2).kept hg (h.apart i j q p h2 hj h1)
 ·rcases key i q hq with ⟨e1, rfl⟩ | ⟨h1, h2⟩
  ·rcases key k q' hq' with ⟨e2, rfl⟩ | ⟨h3, h4⟩
   ·exact absurd (e1.trans e2.symm) hne
   ·rcases hnew k q' h4 h3 with h5 | h5
    ·cases e : (cvV r').ownBlock with
     |none => exact .inl rfl
     |some g => exact .inr (by rw [h5]; simp)
    ·exact .inr fun e => h5 e.symm
  ·rcases key k q' hq' with ⟨e2, rfl⟩ | ⟨h3, h4⟩
   ·exact hnew i q h2 h1
   ·exact h.apart i k q q' h2 h4 hne
end Go.Proofs.YtoabooljgojoiabGreat
