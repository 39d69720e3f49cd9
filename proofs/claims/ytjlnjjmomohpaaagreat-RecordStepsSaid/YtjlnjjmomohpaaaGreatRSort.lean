/- Layer record: the sorting of items by their keys. -/
import Derived.Test.YtjlnjjmomohpaaaGreatRMem
import Derived.Test.YtjlnjjmomohpaaaGreatShelfS
import Derived.Lib.BytesEntry
namespace Go.Proofs.YtjlnjjmomohpaaaGreat
open Go.RowKit Go.Sort Go.Shelf Go.Lib

theorem load_bytes {W : World} {A : Option Addr} {c : Nat} {s : List UInt8} (h : BytesAt W A s.length s) : (Extern.Bytes.bytesOf (.slice A s.length c)).run Tryz.prog W = .ok ⟨s.toArray⟩ W := by
 cases A with
 |none =>
  obtain rfl : s = [] := by
   cases s with
   |nil => rfl
   |cons p q => obtain ⟨_, _, e, _⟩ := h (by simp); cases e
  rfl
 |some ad =>
  have hl := run_loadBytesX (P := Tryz.prog) W (s.map fun x => (x.toNat : Int)) ad .empty (fun j x hj => by
   rw [List.getElem?_map] at hj
   have hjl : j < s.length := by
    rcases Nat.lt_or_ge j s.length with h1 | h1
    ·exact h1
    ·rw [List.getElem?_eq_none h1] at hj; cases hj
   obtain ⟨g, o, e, hh⟩ := h (by omega)
   cases e
   rw [show (⟨g, o, none⟩ : Addr).add j = ⟨g, o + j, none⟩ by simp [Addr.add], hh j hjl]
   rw [List.getElem?_eq_getElem hjl] at hj
   cases hj
   simp [List.getD_eq_getElem?_getD, List.getElem?_eq_getElem hjl])
  rw [List.length_map] at hl
  have e : Go.Lib.bytesOf (s.map fun x => (x.toNat : Int)) = s := by
   unfold Go.Lib.bytesOf
   rw [List.map_map]
   have : ((fun n : Int => UInt8.ofNat n.toNat) ∘ fun x : UInt8 => (x.toNat : Int)) = id := by
    funext x; simp
   rw [this, List.map_id]
  rw [e] at hl
  show (Extern.Bytes.loadBytes ad s.length .empty).run Tryz.prog W = _
  rw [hl]
  simp
theorem run_compare {W : World} {A B : Option Addr} {c d : Nat} {s t : List UInt8} (hs : BytesAt W A s.length s) (ht : BytesAt W B t.length t) :
  (callFunc 114 #[.slice A s.length c, .slice B t.length d]).run Tryz.prog W = .ok (.value (.int .i64 (cmpK s t))) W := by
 rw [run_callFunc_extern Tryz.func114 (by kernel_rfl) (by kernel_rfl) (by kernel_rfl) (e := Extern.BytealgCompare.compare) (by kernel_rfl)]
 have h : (Extern.BytealgCompare.compare #[.slice A s.length c, .slice B t.length d]).run Tryz.prog W = .ok (.int .i64 (cmpK s t)) W := by
  change Sem.run Tryz.prog (do pure (goInt (Extern.BytealgCompare.cmp (← Extern.Bytes.bytesOf (.slice A s.length c)) (← Extern.Bytes.bytesOf (.slice B t.length d))))) W = _
  simp only [Sem.run_bind, load_bytes hs, load_bytes ht, Sem.run_pure, Result.andThen]
  rw [cmp_eq, cmpK_lib]
  rfl
 rw [h]
 rfl
set_option maxHeartbeats 1000000 in
theorem Compare_any {W : World} {A B : Option Addr} {c d : Nat} {s t : List UInt8} (hs : BytesAt W A s.length s) (ht : BytesAt W B t.length t) :
  Calls Tryz.prog 69 #[.slice A s.length c, .slice B t.length d] W fun e w' => e = .returned (.int .i64 (cmpK s t)) ∧ w' = W := by
 have hr := run_compare (c := c) (d := d) hs ht
 clear hs ht
 generalize cmpK s t = z at *
 go_enter Tryz.func69, Tryz.ntmps69
 go_wp2
 go_ret
 exact ⟨rfl, rfl⟩
set_option maxHeartbeats 1000000 in
theorem byKey_any {w : World} (x y : IV) (hx : ItAt w x) (hy : ItAt w y) :
  Calls Tryz.prog 30 #[.agg (encI x).toArray, .agg (encI y).toArray] w fun e w' => e = .returned (.int .i64 (cmpK x.key y.key)) ∧ ∃ q os', w' = grow (w.drewN q) os' := by
 unfold encI
 have HQ := ((Hold.refl w).new #[.slice x.kA x.key.length x.kc, .slice x.vA x.val.length x.vc] 39).new' #[.slice y.kA y.key.length y.kc, .slice y.vA y.val.length y.vc] 39 (n := w.heap.size + 1) (by simp only [World.size_alloc])
 have HC := Lib.hid (fun W (h : Below w.heap.size w W) => Compare_any (c := x.kc) (d := y.kc) (hx.on h).key.bytes (hy.on h).key.bytes)
 clear hx hy
 generalize cmpK x.key y.key = z at *
 go_enter Tryz.func30, Tryz.ntmps30
 go_upto_region 1 with (fail)
 have HW1 : Hid (∃ os, (w.alloc (.cells #[.slice x.kA x.key.length x.kc, .slice x.vA x.val.length x.vc] 39)).alloc (.cells #[.slice y.kA y.key.length y.kc, .slice y.vA y.val.length y.vc] 39) = grow w os) := ⟨_, by rw [alloc_eq_grow, alloc_eq_grow, grow_grow]⟩
 generalize (World.alloc _ _) = W1 at HQ HW1 ⊢
 generalize w.heap.size + 1 = g1 at HQ ⊢
 obtain ⟨a0, a1⟩ := HQ.pt (.head _)
 obtain ⟨b0, b1⟩ := HQ.pt (.tail _ (.head _))
 have HB := Lib.hid HQ.1
 clear HQ
 go_wp2_with (go_at_call 69; go_must (refine (HC.out _ HB.out).mono ?_; rintro e' w' ⟨rfl, rfl⟩))
 go_ret
 obtain ⟨os, e⟩ := HW1.out
 exact ⟨rfl, 0, os, by rw [e]; rfl⟩
set_option maxRecDepth 100000 in
theorem len64_zero (W : World) : Calls Tryz.prog 113 #[.int .u64 0] W fun e w' => e = .returned (.int .i64 0) ∧ w' = W := by
 go_enter Tryz.func113, Tryz.ntmps113
 go_wp2
 go_ret
 exact ⟨by simp [show Lib.len8 0 = 0 from by decide, show wrap64 0 = 0 from by kernel_rfl], rfl⟩
set_option maxRecDepth 100000 in
theorem len_zero (W : World) : Calls Tryz.prog 68 #[.int .u64 0] W fun e w' => e = .returned (.int .i64 0) ∧ w' = W := by
 go_enter Tryz.func68, Tryz.ntmps68
 go_wp2_with (go_at_call 113; go_must (refine (len64_zero _).mono ?_; rintro e w' ⟨rfl, rfl⟩))
 go_ret
 exact ⟨rfl, rfl⟩
set_option maxRecDepth 100000 in
set_option maxHeartbeats 4000000 in
theorem ins_nil (W : World) (f : Value) : Calls Tryz.prog 104 #[.slice none 0 0, .int .i64 0, .int .i64 0, f] W fun e w' => e = .returned (.tuple #[]) ∧ w' = W := by
 go_enter Tryz.func104, Tryz.ntmps104
 go_wp2
 go_loopg [8] 0 (fun g i wr => i = .int .i64 1 ∧ wr = W)
 case atStart => exact ⟨rfl, rfl⟩
 case round =>
  obtain ⟨rfl, rfl⟩ := hrel
  go_wp2
  go_end0
  exact ⟨rfl, rfl⟩
set_option maxRecDepth 100000 in
set_option maxHeartbeats 4000000 in
theorem pdq_nil (W : World) (f : Value) : Calls Tryz.prog 67 #[.slice none 0 0, .int .i64 0, .int .i64 0, .int .i64 0, f] W fun e w' => e = .returned (.tuple #[]) ∧ w' = W := by
 go_enter Tryz.func67, Tryz.ntmps67
 go_wp2
 go_loopg [1, 2] 0 (fun g a b wr => a = .int .i64 0 ∧ b = .int .i64 0 ∧ wr = W)
 case atStart => exact ⟨rfl, rfl, rfl⟩
 case round =>
  obtain ⟨rfl, rfl, rfl⟩ := hrel
  go_wp2_with (go_at_call 104; go_must (refine (ins_nil _ _).mono ?_; rintro e w' ⟨rfl, rfl⟩))
  refine bodyPost_ret (v := .tuple #[]) ?_ ?_ ?_
  ·simp [results, Tryz.results67, go_sem]
  ·rfl
  ·exact ⟨rfl, rfl⟩
set_option maxRecDepth 100000 in
set_option maxHeartbeats 4000000 in
theorem sort_nil (W : World) (f : Value) : Calls Tryz.prog 29 #[.slice none 0 0, f] W fun e w' => e = .returned (.tuple #[]) ∧ w' = W := by
 go_enter Tryz.func29, Tryz.ntmps29
 go_wp2_with (first
  |(go_at_call 68; go_must (refine (len_zero _).mono ?_; rintro e w' ⟨rfl, rfl⟩))
  |(go_at_call 67; go_must (refine (pdq_nil _ _).mono ?_; rintro e w' ⟨rfl, rfl⟩)))
 go_end0
 exact ⟨rfl, rfl⟩

abbrev InS (W : World) := { x : IV // ItAt W x }
instance (W : World) : Inhabited (InS W) := ⟨⟨⟨[], none, 0, [], none, 0⟩, ⟨ByT.nil _ _, ByT.nil _ _, ⟨Nat.le_refl _, Nat.zero_le _, fun _ => rfl⟩, Nat.le_refl _, Nat.zero_le _, fun _ => rfl⟩⟩⟩
def encS (W : World) (x : InS W) : List Value := encI x.1
def cW (W : World) (x y : InS W) : Int := cmpK x.1.key y.1.key
theorem ltW {W : World} (x y : InS W) : ltOf (cW W) x y = bl x.1.key y.1.key := by
 unfold ltOf cW
 rw [Bool.eq_iff_iff, decide_eq_true_iff]
 exact cmpK_neg
theorem swoW (W : World) : SWO (ltOf (cW W)) where
 irrefl x := by rw [ltW]; exact bl_irrefl _
 trans x y z h1 h2 := by rw [ltW] at *; exact bl_trans _ _ _ h1 h2
 ntrans x y z h1 h2 := by rw [ltW] at *; exact bl_ntrans _ _ _ h1 h2
theorem flatW_get {W : World} (d : Array (InS W)) (j : Nat) (hj : j < d.size * 2) : (flatK (encS W) 2 d)[j]! = (encS W d[j / 2]!)[j % 2]! := get_flatK (encS W) 2 d j hj
theorem flatW_list {W : World} (d : Array (InS W)) (j : Nat) (hj : j < d.size * 2) : (d.toList.flatMap (encS W))[j]? = some (flatK (encS W) 2 d)[j]! := by
 have hk : j / 2 < d.size := by omega
 have h := flat_get (enc := encS W) (n := 2) (fun _ => rfl) d.toList (j / 2) d[j / 2] (j % 2) (by rw [Array.getElem?_toList, Array.getElem?_eq_getElem hk]) (by omega)
 rw [show j / 2 * 2 + j % 2 = j by omega] at h
 rw [h, flatW_get d j hj, getElem!_pos d (j / 2) hk]
 have h3 : (encS W d[j / 2]).length = 2 := rfl
 rw [List.getElem?_eq_getElem (by rw [h3]; omega)]
 congr 1
 rw [getElem!_pos]
theorem mapBlock_atW {w : World} {g : Nat} {f : Array Value → Array Value} {c : Array Value} {e : TypeId} {fr : Nat × Nat} (h : w.heap[g]? = some (.cells c e fr)) : (mapBlock w g f).heap[g]? = some (.cells (f c) e fr) := by
 unfold mapBlock
 simp only [Array.getElem?_modify, if_true, h, Option.map_some]
 rfl
theorem take_flatW {W : World} {cur : Array Value} {m : Nat} {d : Array (InS W)} {cap : Nat} (hl : d.size = m) (hc : m ≤ cap) (hs : cur.size = cap * 2) : ((putCells id 0 (flatK (encS W) 2 d) cur).toList.take (m * 2)) = d.toList.flatMap (encS W) := by
 have hfl : (d.toList.flatMap (encS W)).length = d.size * 2 := by rw [flat_len (enc := encS W) (n := 2) (fun _ => rfl), Array.length_toList]
 apply List.ext_getElem?
 intro j
 by_cases hj : j < m * 2
 ·rw [List.getElem?_take_of_lt hj, Array.getElem?_toList, flatW_list d j (by omega)]
  have hjc : j < cur.size := by rw [hs]; omega
  simp only [putCells, Array.getElem?_mapIdx, Array.getElem?_eq_getElem hjc, Option.map_some, size_flatK]
  rw [if_pos ⟨Nat.zero_le _, by omega⟩, Nat.sub_zero]
  rfl
 ·rw [List.getElem?_eq_none (by rw [List.length_take]; omega), List.getElem?_eq_none (by omega)]
theorem flat_sub_val {W : World} (l : List (InS W)) : l.flatMap (encS W) = (l.map Subtype.val).flatMap encI := by rw [List.flatMap_map]; rfl
theorem attach_val {W : World} (l : List IV) (h : ∀ x ∈ l, ItAt W x) : (l.pmap (fun x hx => (⟨x, hx⟩ : InS W)) h).map Subtype.val = l := by
 rw [List.map_pmap]; simp
set_option maxHeartbeats 1000000 in
theorem sortI_any (w W : World) (v : Value) (l : List Itm) (hln : l.length ≤ 1000000) (hr : ItRow w v l W) :
  Calls Tryz.prog 29 #[v, .func (.func 30) #[] #[]] W fun e W' => e = .returned (.tuple #[]) ∧ ∃ l' : List Itm, l'.Perm l ∧ l'.Pairwise (fun a b => bl b.1 a.1 = false) ∧ ItRow w v l' W' := by
 obtain ⟨li, ⟨hB, hl, ⟨rfl, hz⟩ | ⟨g, cap, cur, rfl, hb, hg, hn, hc, hs, ht⟩⟩, hat, rfl⟩ := hr
 ·obtain rfl := List.length_eq_zero_iff.1 hz
  refine (sort_nil W _).mono ?_
  rintro e W' ⟨rfl, rfl⟩
  exact ⟨rfl, [], .refl _, .nil, ItRow.nil hB⟩
 ·rw [List.length_map] at hln
  obtain ⟨ls, hls⟩ : ∃ ls : List (InS W), ls.map Subtype.val = li := ⟨_, attach_val li hat⟩
  have hll : ls.length = li.length := by rw [← hls, List.length_map]
  have hH : HoldsK (encS W) 2 W g 0 ls.toArray := fun j hj => by
   rw [size_flatK] at hj
   have hj' : j < li.length * 2 := by simpa [hll] using hj
   rw [Nat.zero_add]
   refine ⟨?_, blk_frozen hg j⟩
   rw [blk_cell hg j, ← Array.getElem?_toList]
   have h2 : (cur.toList.take (li.length * 2))[j]? = cur.toList[j]? := List.getElem?_take_of_lt (by omega)
   rw [← h2, ht]
   have := flatW_list ls.toArray j hj
   rw [flat_sub_val] at this
   rw [show ls.toArray.toList = ls from rfl, hls] at this
   exact this
  have hlt := blk_lt hg
  have hkp : ∀ (m : Nat) (os : Array Obj) (dk : Array (InS W)), KeepT 39 W (sortWorldK (encS W) 2 W g 0 m dk os) := fun m os dk => by
   refine ⟨by show _ ≤ (grow _ _).heap.size; rw [size_grow]; unfold putRowK; rw [size_putRow]; exact Nat.le_add_right _ _, fun k cs t fr hk htk => ?_⟩
   have hkl := blk_lt hk
   show (grow _ _).heap[k]? = _
   rw [heap_grow_old _ _ (by unfold putRowK; rw [size_putRow]; exact hkl)]
   have hne : g ≠ k := fun e => by subst e; rw [hg] at hk; cases hk; exact htk rfl
   show (W.heap.modify g _)[k]? = _
   rw [Array.getElem?_modify, if_neg hne]
   exact hk
  have eg : ∀ args w, (callFunc 30 args).run Tryz.prog w = .ok (.enter 30 args) w := enters_of Tryz.func30 (by kernel_rfl) rfl
  have hcon := AnyQ.slices_SortFunc Tryz.sortP 2 Tryz.isAgg39 Tryz.sizeOf39 (encS W) (fun _ => rfl) (fun x v hv => kindI.one x.1 v hv) (cW W) (swoW W) 30 #[] g 0 cap ls.toArray W eg (fun m os dk _ x y => byKey_any x.1 y.1 (x.2.keep (hkp m os dk) (by decide)) (y.2.keep (hkp m os dk) (by decide))) hH hlt (by simp; omega)
  rw [show ls.toArray.size = li.length by simp [hll]] at hcon
  refine hcon.mono ?_
  rintro e W' ⟨h1, d', m, os, hp, hsrt, rfl⟩
  have hsz : d'.size = li.length := by rw [hp.1]; simp [hll]
  have hpl : d'.toList.Perm ls := by
   have := hp.2.2
   rw [show d'.extract 0 li.length = d' by rw [← hsz]; exact Array.extract_size, show ls.toArray.extract 0 li.length = ls.toArray by rw [← hll]; exact Array.extract_size] at this
   simpa using this
  have hpv : (d'.toList.map Subtype.val).Perm li := by rw [← hls]; exact hpl.map _
  refine ⟨h1, (d'.toList.map Subtype.val).map IV.it, hpv.map _, ?_, d'.toList.map Subtype.val, ⟨⟨hB.os, hB.tape, hB.output, Nat.le_trans hB.size (hkp m os d').1, fun k hk => ?_⟩, ?_, .inr ⟨g, cap, putCells id 0 (flatK (encS W) 2 d') cur, ?_, hb, ?_, ?_, hc, ?_, ?_⟩⟩, fun x hx => ?_, rfl⟩
  ·rw [List.map_map]
   refine List.pairwise_iff_getElem.2 fun i j hi hj hij => ?_
   simp only [List.length_map, Array.length_toList] at hi hj
   have := hsrt i j (Nat.zero_le _) hij (by omega)
   rw [ltW] at this
   rw [getElem!_pos d' i hi, getElem!_pos d' j hj] at this
   simp only [List.getElem_map, Array.getElem_toList]
   exact this
  ·have hkW : k < W.heap.size := Nat.lt_of_lt_of_le hk hB.size
   show (grow _ _).heap[k]? = _
   rw [heap_grow_old _ _ (by unfold putRowK; rw [size_putRow]; exact hkW)]
   have hne : g ≠ k := by omega
   show (W.heap.modify g _)[k]? = _
   rw [Array.getElem?_modify, if_neg hne]
   exact hB.block k hk
  ·rw [flat_len (enc := encI) (n := 2) (fun _ => rfl)]
  ·simp [hsz]
  ·show (grow _ _).heap[g]? = _
   rw [heap_grow_old _ _ (by unfold putRowK; rw [size_putRow]; exact hlt)]
   exact mapBlock_atW hg
  ·rw [List.length_map, Array.length_toList, hsz]; exact hn
  ·simp [putCells, hs]
  ·rw [List.length_map, Array.length_toList, hsz, ← flat_sub_val]
   exact take_flatW hsz hn hs
  ·exact (hat x (hpv.mem_iff.1 hx)).keep (hkp m os d') (by decide)
end Go.Proofs.YtjlnjjmomohpaaaGreat
