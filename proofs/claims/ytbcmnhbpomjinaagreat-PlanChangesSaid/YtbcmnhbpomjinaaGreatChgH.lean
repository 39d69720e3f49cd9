/- The library's Clone and Copy of maps of parcels; the numbers of such a map, sorted. -/
import Derived.Test.YtbcmnhbpomjinaaGreatChgD
import Derived.Test.YtbcmnhbpomjinaaGreatShelfB
import Derived.Lib.SlKept
import Derived.Lib.SliceRun
namespace Go.Proofs.YtbcmnhbpomjinaaGreat
open Go.RowKit

set_option maxRecDepth 100000 in
set_option maxHeartbeats 2000000 in
theorem cloneP_any (b : Nat) (L : List (Int × PV)) (w : World) (hm : MapIs w b iv pvV In64 L) :
    Calls Tryz.prog 61 #[.map (some b)] w fun e w' => e = .returned (.map (some w.heap.size)) ∧ MapIs w' w.heap.size iv pvV In64 L ∧ w.grownBy w' none := by
  obtain ⟨es, c, hb, hl, hs, hok⟩ := hm
  have hq := fun w => run_eql_map_nil_sl (P := Tryz.prog) w 97 _ _ (some b) Tryz.underlying97
  have HB := Lib.hid hb
  have HL : Hid (MapIs (w.alloc (.map es c)) w.heap.size iv pvV In64 L) := ⟨es, c, heap_alloc_new _ _, hl, hs, hok⟩
  clear hl hs hok hb
  go_enter Tryz.func61, Tryz.ntmps61
  go_wp2
  rw [run_callFunc_extern Tryz.func99 (by kernel_rfl) (by kernel_rfl) (by kernel_rfl) (e := Extern.MapsClone.clone) (by kernel_rfl), run_maps_clone_sl w 97 HB.out]
  simp only [Result.andThen]
  rw [Oper.upon_value]
  go_wp2
  rw [run_typeAssert_map_sl _ 97 20 _ _ _ Tryz.underlying97]
  simp only [Result.andThen]
  rw [Oper.upon_value]
  go_wp2
  go_ret
  exact ⟨rfl, HL.out, World.grownBy_alloc _ _ _⟩

set_option maxRecDepth 100000 in
set_option maxHeartbeats 2000000 in
theorem copyP_any (bd bs : Nat) (Ld Ls : List (Int × PV)) (f : Int → Option PV) (w : World) (hd : MapIs w bd iv pvV In64 Ld) (hfd : IsFn Ld f) (hs : MapIs w bs iv pvV In64 Ls) (hne : bd ≠ bs) :
    Calls Tryz.prog 62 #[.map (some bd), .map (some bs)] w fun e w' => e = .returned (.tuple #[]) ∧ ∃ L', MapIs w' bd iv pvV In64 L' ∧ (∀ x, x ∈ L'.map Prod.fst ↔ x ∈ Ld.map Prod.fst ∨ x ∈ Ls.map Prod.fst) ∧ L'.length ≤ Ld.length + Ls.length ∧ w.grownBy w' (some bd) := by
  have HD := Lib.hid hd
  have HF := Lib.hid hfd
  have HNE := Lib.hid hne
  have HLT := Lib.hid hd.lt
  clear hd hfd hne
  go_enter Tryz.func62, Tryz.ntmps62
  go_wp2_with (at_range; refine wp_range rfl _ 97 rfl 3 34 Tryz.underlying97 bs rfl hs ?_; intro W2 HR2 hg2 hs2)
  go_frame
  have HD2 := HD.out.kept hg2 (by simp)
  have HRL := Lib.hid HLT.out
  clear hs hs2
  obtain ⟨r, hr⟩ : ∃ r, w.heap.size = r := ⟨_, rfl⟩
  rw [hr] at HR2 ⊢
  have HRB : Hid (bd < r) := by unfold Hid; rw [← hr]; exact HLT.out
  have HRW : Hid (w.heap.size ≤ r) := Nat.le_of_eq hr
  clear hr
  go_loopg [] Ls.length (fun g wr => ∃ left ys Lo fo, g = left.length ∧ Ranges wr bs r iv pvV In64 Ls left ∧ (ys ++ left.map Prod.fst).Perm (Ls.map Prod.fst) ∧ MapIs wr bd iv pvV In64 Lo ∧ IsFn Lo fo ∧ Lo.length ≤ Ld.length + ys.length ∧ (∀ x, x ∈ Lo.map Prod.fst ↔ x ∈ Ld.map Prod.fst ∨ x ∈ ys) ∧ w.grownBy wr (some bd))
  case atStart => exact ⟨Ls, [], Ld, f, rfl, HR2, List.Perm.refl _, HD2, HF.out, Nat.le_refl _, fun x => by simp, hg2.but _⟩
  case round =>
    clear HR2 HD2 hg2
    obtain ⟨left, ys, Lo, fo, hgl, HR, hP, hM, hfo, hlo, hin, hG⟩ := hrel
    have HGL := Lib.hid hgl
    have HRS := Lib.hid HR
    have HP := Lib.hid hP
    have HM := Lib.hid hM
    have HFO := Lib.hid hfo
    have HLO := Lib.hid hlo
    have HIN := Lib.hid hin
    have HG := Lib.hid hG
    clear hgl HR hP hM hfo hlo hin hG
    go_wp2_with (
      (at_next; refine wp_next rfl _ rfl r rfl HRS.out ?_ (fun l1 p l2 W5 hl hrg hg5 hs5 hen => ?_); rotate_left; (simp only [iv, pvV] at hen ⊢); (have HL := Lib.hid hl); (have HRG := Lib.hid hrg); (have HG5 := Lib.hid hg5); clear hl hrg hg5 hs5; rotate_left))
    · intro hnil
      have HPN : Hid (ys.Perm (Ls.map Prod.fst)) := by have := HP.out; rw [hnil] at this; unfold Hid; simpa using this
      clear hnil HP
      go_wp2
      go_end0
      refine ⟨rfl, Lo, HM.out, fun x => ?_, ?_, HG.out⟩
      · rw [HIN.out x, HPN.out.mem_iff]
      · have h1 := HPN.out.length_eq
        have h2 := HLO.out
        rw [List.length_map] at h1
        omega
    · obtain ⟨id, y⟩ := p
      have HIP : Hid (id ∈ Ls.map Prod.fst) := HP.out.mem_iff.1 (List.mem_append_right _ (by rw [HL.out]; simp))
      have HOK : Hid (In64 id) := by
        obtain ⟨es, c, _, _, _, hok⟩ := HRS.out.isMap
        obtain ⟨q, hq, e⟩ := List.mem_map.1 HIP.out
        rw [← e]; exact hok q hq
      have HM5 := Lib.hid ((HM.out.kept HG5.out (fun e => by have := Option.some.inj e; have := HRB.out; omega)).alloc (Obj.cells #[.int .i64 y.par.id, .slice y.A y.par.ring.length y.cap, .string y.par.own] 34))
      have HR5 := Lib.hid (HRG.out.alloc (Obj.cells #[.int .i64 y.par.id, .slice y.A y.par.ring.length y.cap, .string y.par.own] 34))
      obtain ⟨W9, L9, hrun, hm9, hf9, hl9, hg9, hs9⟩ := HM5.out.put HFO.out keyI Tryz.underlying97 HOK.out y
      simp only [iv, pvV] at hrun
      have HM9 := Lib.hid hm9
      have HF9 := Lib.hid hf9
      have HL9 := Lib.hid hl9
      have HG9 := Lib.hid hg9
      have HA := Lib.hid (World.grownBy_alloc W5 (Obj.cells #[.int .i64 y.par.id, .slice y.A y.par.ring.length y.cap, .string y.par.own] 34) none)
      clear hm9 hf9 hl9 hg9 hs9 HM5
      have HR9 := Lib.hid (HR5.out.kept HG9.out (fun e => HNE.out (Option.some.inj e).symm) (fun e => by have := Option.some.inj e; have := HRB.out; omega))
      have HLN : Hid ((l1 ++ l2).length < left.length) := by unfold Hid; rw [HL.out]; simp
      have HP1 : Hid (((ys ++ [id]) ++ (l1 ++ l2).map Prod.fst).Perm (Ls.map Prod.fst)) := by
        refine List.Perm.trans ?_ HP.out
        rw [HL.out, List.append_assoc]
        refine List.Perm.append_left ys ?_
        rw [List.map_append, List.map_append, List.map_cons]
        show (id :: (l1.map Prod.fst ++ l2.map Prod.fst)).Perm (l1.map Prod.fst ++ id :: l2.map Prod.fst)
        exact List.perm_middle.symm
      have HG5' : Hid (w.grownBy W9 (some bd)) :=
        ((HG.out.andThen HG5.out (fun j e => .inl (by have := Option.some.inj e; have := HRW.out; omega))).andThen HA.out (fun j e => by cases e)).andThen HG9.out (fun j e => .inr e)
      go_wp2
      go_roundg (l1 ++ l2).length
      case measure => have := HGL.out; have := HLN.out; omega
      case rel =>
        refine ⟨l1 ++ l2, ys ++ [id], L9, _, rfl, HR9.out, HP1.out, HM9.out, HF9.out, ?_, fun x => ?_, HG5'.out⟩
        · have h1 := HL9.out
          have h2 := HLO.out
          rw [List.length_append, List.length_cons, List.length_nil]
          omega
        · rw [HF9.out.keys x, List.mem_append, List.mem_singleton]
          by_cases e : x = id
          · rw [if_pos e]; exact ⟨fun _ => .inr (.inr e), fun _ => ⟨_, rfl⟩⟩
          · rw [if_neg e, ← HFO.out.keys x, HIN.out x]
            exact ⟨fun h => h.imp (fun h => h) .inl, fun h => h.imp (fun h => h) fun h => h.resolve_right e⟩
end Go.Proofs.YtbcmnhbpomjinaaGreat

/- A row of whole numbers of the call's own: sorted; the first that a predicate tells of. -/
namespace Go.Proofs.YtbcmnhbpomjinaaGreat
open Go.RowKit Go.Sort

def RowZ (w0 W : World) (g off : Nat) (d : Array Int) : Prop := Below w0.heap.size w0 W ∧ w0.heap.size ≤ g ∧ g < W.heap.size ∧ Holds (Value.int .i64) W g off d
section
variable {w0 W W' : World} {g off : Nat} {d : Array Int}
theorem RowZ.on (h : RowZ w0 W g off d) (hb : Below W.heap.size W W') : RowZ w0 W' g off d :=
  ⟨h.1.trans (hb.mono h.1.size), h.2.1, Nat.lt_of_lt_of_le h.2.2.1 hb.size, fun j hj => ⟨(hb.cell (p := ⟨g, off + j, none⟩) h.2.2.1).trans (h.2.2.2 j hj).1, (hb.frozen (p := ⟨g, off + j, none⟩) h.2.2.1).trans (h.2.2.2 j hj).2⟩⟩
theorem RowZ.set (h : RowZ w0 W g off d) {i : Nat} (hi : i < d.size) (u : Int) : RowZ w0 (W.setCell ⟨g, off + i, none⟩ (.int .i64 u)) g off (d.setIfInBounds i u) := by
  refine ⟨h.1.setCell (p := ⟨g, off + i, none⟩) h.2.1 _, h.2.1, by rw [World.size_setCell]; exact h.2.2.1, fun j hj => ⟨?_, ?_⟩⟩
  · have hj' : j < d.size := by simpa using hj
    by_cases e : j = i
    · subst e
      rw [getElem!_set_same d j u hi, World.cell?_setCell_same _ _ _ (h.2.2.2 j hi).1]
    · rw [getElem!_set_other d i j u e, World.cell?_setCell_other _ _ _ _ (fun h => e (by have := (Addr.mk.inj h).2.1; omega))]
      exact (h.2.2.2 j hj').1
  · have hj' : j < d.size := by simpa using hj
    rw [World.frozen?_setCell]
    exact (h.2.2.2 j hj').2
end
theorem pw_strict : ∀ {l : List Int}, l.Pairwise (· ≤ ·) → l.Nodup → l.Pairwise (· < ·)
  | [], _, _ => List.Pairwise.nil
  | a :: l, h, hn => by
    obtain ⟨h1, h2⟩ := List.pairwise_cons.1 h
    obtain ⟨h3, h4⟩ := List.nodup_cons.1 hn
    refine List.pairwise_cons.2 ⟨fun b hb => ?_, pw_strict h2 h4⟩
    have := h1 b hb
    have : a ≠ b := fun e => h3 (e ▸ hb)
    omega
theorem merge_le (l : List Int) : (l.mergeSort fun x y => decide (x ≤ y)).Pairwise (· ≤ ·) := by
  have h := List.pairwise_mergeSort (le := fun x y : Int => decide (x ≤ y)) (fun a b c h1 h2 => by simp at h1 h2 ⊢; omega) (fun a b => by simp; omega) l
  exact h.imp fun h => by simpa using h
theorem sortZ_any (w W : World) (v : Value) (ys : List Int) (hln : ys.length ≤ 1000000) (hr : RowI w 3 1 encN v ys W) :
    Calls Tryz.prog 102 #[v] W fun e W' => e = .returned (.tuple #[]) ∧ ((ys = [] ∧ v = .slice none 0 0 ∧ Below w.heap.size w W') ∨ ∃ g cap, v = .slice (some ⟨g, 0, none⟩) ys.length cap ∧ ys.length ≤ cap ∧ ys.length ≤ maxLen ∧ RowZ w W' g 0 (ys.mergeSort fun x y => decide (x ≤ y)).toArray) := by
  obtain ⟨hB, hl, ⟨rfl, h0⟩ | ⟨g, cap, cur, rfl, hb, hg, hn, hc, hs, ht⟩⟩ := hr
  · have e0 : ys = [] := List.length_eq_zero_iff.1 h0
    exact (Tryz.slices_Sort_int_none none 0 W).mono fun e W' ⟨h1, h2⟩ => ⟨h1, .inl ⟨e0, rfl, by rw [h2]; exact hB⟩⟩
  · have hH : Holds (Value.int .i64) W g 0 ys.toArray := fun j hj => by
      have hj' : j < ys.length := by simpa using hj
      rw [Nat.zero_add]
      refine ⟨?_, blk_frozen hg j⟩
      rw [blk_cell hg j, ← Array.getElem?_toList]
      have h2 : (cur.toList.take (ys.length * 1))[j]? = cur.toList[j]? := List.getElem?_take_of_lt (by omega)
      rw [← h2, ht]
      have h3 := flat_get (enc := encN) (n := 1) (fun _ => rfl) ys j ys[j] 0 (List.getElem?_eq_getElem hj') (by omega)
      rw [Nat.mul_one, Nat.add_zero] at h3
      rw [h3]
      simp [encN, hj']
    have hlt := blk_lt hg
    have hml : ys.length ≤ maxLen := by omega
    refine (Tryz.slices_Sort_int g 0 cap ys W hH hlt (by omega)).mono ?_
    rintro e W' ⟨h1, n, os, rfl⟩
    have hp : (ys.mergeSort fun x y => decide (x ≤ y)).length = ys.length := (List.mergeSort_perm ys _).length_eq
    refine ⟨h1, .inr ⟨g, cap, rfl, hn, hml, ⟨hB.os, hB.tape, hB.output, by rw [size_grow, size_putRow]; exact Nat.le_trans hB.size (Nat.le_add_right _ _), fun k hk => ?_⟩, hb, by rw [size_grow, size_putRow]; exact Nat.lt_of_lt_of_le hlt (Nat.le_add_right _ _), ?_⟩⟩
    · have hkW : k < W.heap.size := Nat.lt_of_lt_of_le hk hB.size
      rw [heap_grow_old _ _ (by rw [size_putRow]; exact hkW)]
      have hne : g ≠ k := by omega
      show (W.heap.modify g _)[k]? = _
      rw [Array.getElem?_modify, if_neg hne]
      exact hB.block k hk
    · exact holds_grow _ _ _ _ _ _ (by rw [size_putRow]; exact hlt) (holds_putRow _ _ _ _ _ _ (holds_ahead _ _ _ _ _ _ hH) (by simp))
set_option maxHeartbeats 1000000 in
theorem sortedZ_any (Bm b : Nat) (L : List (Int × PV)) (hL : L.length ≤ 1000000) (w : World) (hBm : Bm < w.heap.size) (hm : w.cell? ⟨Bm, 0, none⟩ = some (.map (some b))) (hown : MapIs w b iv pvV In64 L) :
    Calls Tryz.prog 64 #[.func (.func 103) #[] #[.pointer (some ⟨Bm, 0, none⟩)]] w fun e w' => ∃ zs : List Int, zs.Perm (L.map Prod.fst) ∧ zs.Pairwise (· < ·) ∧ ((zs = [] ∧ e = .returned (.slice none 0 0) ∧ Below w.heap.size w w') ∨ ∃ g cap, e = .returned (.slice (some ⟨g, 0, none⟩) zs.length cap) ∧ zs.length ≤ cap ∧ zs.length ≤ maxLen ∧ RowZ w w' g 0 zs.toArray) := by
  have HC := Lib.hid (collectI_any Bm b L hL w hBm hm hown)
  have HND := Lib.hid hown.nodup
  clear hm hown
  go_enter Tryz.func64, Tryz.ntmps64
  go_upto_region 2 with (go_at_call 101; go_must (refine HC.out.mono ?_; rintro e w' ⟨v, ys, rfl, hp, hr⟩; have HP := Lib.hid hp; have HR := Lib.hid hr; clear hp hr))
  have HPM := Lib.hid ((List.mergeSort_perm ys fun x y => decide (x ≤ y)).trans HP.out)
  have HPW := Lib.hid (pw_strict (merge_le ys) (HPM.out.nodup_iff.2 HND.out))
  have HLN := Lib.hid ((List.mergeSort_perm ys fun x y => decide (x ≤ y)).length_eq)
  have HNIL : Hid (ys = [] → (ys.mergeSort fun x y => decide (x ≤ y)) = []) := fun e => by subst e; simp
  have HS := Lib.hid (sortZ_any w w' v ys (by have := HP.out.length_eq; rw [List.length_map] at this; omega) HR.out)
  generalize hzs : (ys.mergeSort fun x y => decide (x ≤ y)) = zs at *
  have HQ := Lib.hid hzs
  clear hzs
  go_wp2_with (go_at_call 102; go_must (refine HS.out.mono ?_; rintro e W3 ⟨rfl, h3⟩; have H3 := Lib.hid h3; clear h3))
  go_ret
  refine ⟨zs, HPM.out, HPW.out, ?_⟩
  rcases H3.out with ⟨h1, h2, h3⟩ | ⟨g, cap, h1, h2, h3, h4⟩
  · exact .inl ⟨HNIL.out h1, by rw [h2]; rfl, h3⟩
  · refine .inr ⟨g, cap, by rw [h1, HLN.out]; rfl, by rw [HLN.out]; exact h2, by rw [HLN.out]; exact h3, ?_⟩
    first | exact h4 | (rw [HQ.out] at h4; exact h4)

set_option maxRecDepth 100000 in
set_option maxHeartbeats 2000000 in
theorem idxZ_any (P : Int → Prop) (w1 W : World) (q1 q2 : Value) (zs : List Int) (g off cap : Nat) (hz : RowZ w1 W g off zs.toArray) (hin : ∀ z ∈ zs, In64 z) (hn : zs.length ≤ maxLen)
    (hd : ∀ W', Below w1.heap.size w1 W' → ∀ id, In64 id → Calls Tryz.prog 66 #[.int .i64 id, q1, q2] W' fun e W'' => ∃ b, e = .returned (.bool b) ∧ (b = true ↔ P id) ∧ Below W'.heap.size W' W'') :
    Calls Tryz.prog 100 #[.slice (some ⟨g, off, none⟩) zs.length cap, .func (.func 66) #[] #[q1, q2]] W fun e W' => ∃ i : Int, e = .returned (.int .i64 i) ∧ Below W.heap.size W W' ∧ ((i = -1 ∧ ∀ j, j < zs.length → ¬ P zs[j]!) ∨ ∃ k : Nat, i = k ∧ k < zs.length ∧ P zs[k]! ∧ ∀ j, j < k → ¬ P zs[j]!) := by
  have HS : Hid (zs.length ≤ 9223372036854775807) := by unfold Hid; unfold maxLen at hn; omega
  have HZ := Lib.hid hz
  have HIN := Lib.hid hin
  have HD := Lib.hid hd
  clear hz hin hd hn
  go_enter Tryz.func100, Tryz.ntmps100
  go_wp2_with fail
  go_loopg [8] zs.length (fun gg i wr => ∃ k : Nat, k ≤ zs.length ∧ gg = zs.length - k ∧ i = .int .i64 k ∧ (∀ j, j < k → ¬ P zs[j]!) ∧ Below W.heap.size W wr)
  case atStart => exact ⟨0, Nat.zero_le _, rfl, rfl, fun j hj => absurd hj (by omega), Below.refl _ _⟩
  case round =>
    obtain ⟨k, hk, hgk, rfl, hno, hB⟩ := hrel
    have HGK := Lib.hid hgk
    have HNO := Lib.hid hno
    have HB := Lib.hid hB
    clear hgk hno hB
    by_cases hlt : k < zs.length
    · have b0 : (0 : Int) ≤ (k : Int) := by omega
      have b1 : (k : Int) < (zs.length : Int) := by omega
      have hws : IntKind.i64.wrap ((k : Int) + 1) = (k : Int) + 1 := by have := HS.out; rw [IntKind.wrap_i64]; omega
      have hz1 := HZ.out.on HB.out
      have d0 := (hz1.2.2.2 k (by simpa using hlt)).1
      have e1 : zs.toArray[k]! = zs[k]! := by simp
      rw [e1] at d0
      have HC := Lib.hid (HD.out wr hz1.1 zs[k]! (HIN.out _ (by rw [getElem!_pos zs k hlt]; exact List.getElem_mem hlt)))
      clear hz1 e1
      generalize hu : zs[k]! = u at *
      have HU := Lib.hid hu
      clear hu
      go_wp2_with (go_at_call 66; go_must (refine HC.out.mono ?_; rintro e' W3 ⟨bb, rfl, hb, hB3⟩; have HBB := Lib.hid hb; have HB3 := Lib.hid hB3; clear hb hB3; cases bb))
      · go_roundg (zs.length - (k + 1))
        case measure => have := HGK.out; omega
        case rel =>
          refine ⟨k + 1, by omega, rfl, by go_num, fun j hj => ?_, HB.out.trans (HB3.out.mono HB.out.size)⟩
          by_cases e : j = k
          · subst e; rw [HU.out]; exact fun h => Bool.noConfusion (HBB.out.2 h)
          · exact HNO.out j (by omega)
      · go_ret
        exact ⟨_, rfl, HB.out.trans (HB3.out.mono HB.out.size), .inr ⟨k, rfl, by omega, by rw [HU.out]; exact HBB.out.1 trivial, HNO.out⟩⟩
    · obtain rfl : k = zs.length := by omega
      go_wp2
      go_ret
      exact ⟨_, rfl, HB.out, .inl ⟨rfl, HNO.out⟩⟩
end Go.Proofs.YtbcmnhbpomjinaaGreat

/- The library's DeleteFunc, with the function that Changed deletes by. -/
namespace Go.Proofs.YtbcmnhbpomjinaaGreat
open Go.RowKit Go.Sort Go.Lib

theorem below_setCells {B g : Nat} {a : World} (hg : B ≤ g) : ∀ (vs : List Value) (o : Nat) {w : World}, RowKit.Below B a w → RowKit.Below B a (w.setCells g o vs)
  | [], _, _, h => h
  | v :: r, o, _, h => below_setCells hg r (o + 1) (h.setCell (p := ⟨g, o, none⟩) hg v)
theorem size_setCellsZ {g : Nat} : ∀ (vs : List Value) (o : Nat) (w : World), (w.setCells g o vs).heap.size = w.heap.size
  | [], _, _ => rfl
  | _ :: r, o, _ => (size_setCellsZ r (o + 1) _).trans (World.size_setCell _ _ _)
set_option maxRecDepth 100000 in
set_option maxHeartbeats 4000000 in
theorem delZ_any (p : Int → Bool) (P : Int → Prop) (hP : ∀ z, p z = true ↔ P z) (w1 W : World) (q1 q2 : Value) (zs : List Int) (g off cap : Nat) (hz : RowZ w1 W g off zs.toArray) (hin : ∀ z ∈ zs, In64 z) (hn : zs.length ≤ maxLen) (hcap : zs.length ≤ cap)
    (hd : ∀ W', RowKit.Below w1.heap.size w1 W' → ∀ id, In64 id → Calls Tryz.prog 66 #[.int .i64 id, q1, q2] W' fun e W'' => ∃ b, e = .returned (.bool b) ∧ (b = true ↔ P id) ∧ RowKit.Below W'.heap.size W' W'') :
    Calls Tryz.prog 63 #[.slice (some ⟨g, off, none⟩) zs.length cap, .func (.func 66) #[] #[q1, q2]] W fun e W' => e = .returned (.slice (some ⟨g, off, none⟩) (zs.filter fun z => !p z).length cap) ∧ RowKit.Below w1.heap.size w1 W' ∧ g < W'.heap.size ∧ ∀ j, j < (zs.filter fun z => !p z).length → W'.cell? ⟨g, off + j, none⟩ = some (.int .i64 (zs.filter fun z => !p z)[j]!) := by
  have HI := Lib.hid (idxZ_any P w1 W q1 q2 zs g off cap hz hin hn hd)
  have HS : Hid (zs.length ≤ 9223372036854775807) := by unfold Hid; unfold maxLen at hn; omega
  have HZ := Lib.hid hz
  have HIN := Lib.hid hin
  have HD := Lib.hid hd
  have HP := Lib.hid hP
  have HCAP := Lib.hid hcap
  obtain ⟨kp, HK⟩ : ∃ kp : Nat → Bool, Hid (kp = fun j => !p zs.toArray[j]!) := ⟨_, rfl⟩
  have HFL : Hid ((zs.filter fun z => !p z) = keptUpTo kp zs.toArray zs.toArray.size) := by
    unfold Hid
    rw [HK.out]
    have := keptUpTo_filter (fun x => !p x) zs.toArray
    exact this.symm
  clear hz hin hd hn hP hcap
  go_enter Tryz.func63, Tryz.ntmps63
  go_upto_region 2 with (go_at_call 100; go_must (refine HI.out.mono ?_; rintro e' W2 ⟨i, rfl, hB, hi⟩; have HB := Lib.hid hB; have HX := Lib.hid hi; clear hB hi))
  have HZ2 := Lib.hid (HZ.out.on HB.out)
  clear HI
  by_cases hneg : i = -1
  · subst hneg
    have HALL : Hid (∀ z ∈ zs, (!p z) = true) := fun z hz => by
      rcases HX.out with ⟨-, h⟩ | ⟨k, h, -, -⟩
      · obtain ⟨j, hj, rfl⟩ := List.mem_iff_getElem.1 hz
        have := h j hj
        rw [getElem!_pos zs j hj, ← HP.out] at this
        simpa using this
      · omega
    go_wp2
    go_ret
    rw [List.filter_eq_self.2 HALL.out]
    exact ⟨rfl, HZ2.out.1, HZ2.out.2.2.1, fun j hj => by
      have := (HZ2.out.2.2.2 j (by simpa using hj)).1
      simpa using this⟩
  · obtain ⟨k0, rfl, hk0, HT, HNO⟩ : ∃ k : Nat, i = k ∧ k < zs.length ∧ Hid (P zs[k]!) ∧ Hid (∀ j, j < k → ¬ P zs[j]!) := by
      rcases HX.out with ⟨h, -⟩ | ⟨k, h1, h2, h3, h4⟩
      · exact absurd h hneg
      · exact ⟨k, h1, h2, h3, h4⟩
    have hne1 : ((k0 : Int) == -1) = false := beq_eq_false_iff_ne.2 hneg
    have HKEEP : Hid (∀ j, j < k0 → kp j = true) := fun j hj => by
      rw [HK.out]
      have := HNO.out j hj
      rw [← HP.out] at this
      simpa using this
    have HDROP : Hid (kp k0 = false) := by
      unfold Hid
      rw [HK.out]
      have := (HP.out _).2 HT.out
      simpa using this
    have HST := Lib.hid (KeptInv.start (d := zs.toArray) HKEEP.out HDROP.out)
    have hw0 : IntKind.i64.wrap ((k0 : Int) + 1) = (k0 : Int) + 1 := by have := HS.out; rw [IntKind.wrap_i64]; omega
    have HK0 := Lib.hid hk0
    clear hneg HX hk0 HT HNO HKEEP HDROP
    go_wp2_with fail
    go_loopg [5, 6, 7] zs.length (fun gg s5 s6 _ wr => ∃ (i j : Nat) (dk : Array Int), s5 = .int .i64 i ∧ s6 = .int .i64 j ∧ j ≤ zs.length ∧ zs.length - j ≤ gg ∧ RowZ w1 wr g off dk ∧ KeptInv kp zs.toArray j i dk)
    case atStart => exact ⟨k0, k0 + 1, zs.toArray, rfl, by go_num, by have := HK0.out; omega, Nat.sub_le _ _, HZ2.out, HST.out⟩
    case round =>
      obtain ⟨i, j, dk, rfl, rfl, hjd, hgg, hzr, hI⟩ := hrel
      have hij := hI.lt
      have hds := hI.size
      have hdz : dk.size = zs.length := by rw [hds]; simp
      have HJD := Lib.hid hjd
      have HGG := Lib.hid hgg
      have HIJ := Lib.hid hij
      have HR := Lib.hid hzr
      have HV := Lib.hid hI
      have HDZ := Lib.hid hdz
      clear hgg
      by_cases hlt : j < zs.length
      · have b0 : (0 : Int) ≤ (j : Int) := by omega
        have b1 : (j : Int) < (zs.length : Int) := by omega
        have b2 : (0 : Int) ≤ (i : Int) := by omega
        have b3 : (i : Int) < (zs.length : Int) := by omega
        have hw1 : IntKind.i64.wrap ((j : Int) + 1) = (j : Int) + 1 := by have := HS.out; rw [IntKind.wrap_i64]; omega
        have hw2 : IntKind.i64.wrap ((i : Int) + 1) = (i : Int) + 1 := by have := HS.out; rw [IntKind.wrap_i64]; omega
        obtain ⟨cj, -⟩ := hzr.2.2.2 j (by omega)
        have e1 : dk[j]! = zs[j]! := by rw [hI.high j (by omega)]; simp
        rw [e1] at cj
        have HC := Lib.hid (HD.out wr hzr.1 zs[j]! (HIN.out _ (by rw [getElem!_pos zs j hlt]; exact List.getElem_mem hlt)))
        have HEJ : Hid (zs.toArray[j]! = zs[j]!) := by unfold Hid; simp
        clear hzr hI hij hds hdz e1 hjd
        generalize hu : zs[j]! = u at *
        go_wp2_with (go_at_call 66; go_must (refine HC.out.mono ?_; rintro e' W3 ⟨bb, rfl, hb, hB3⟩; have HBB := Lib.hid hb; have HB3 := Lib.hid hB3; have HR3 := Lib.hid (HR.out.on HB3.out); obtain ⟨ci, fi⟩ := HR3.out.2.2.2 i (by have := HDZ.out; omega); clear hb hB3; cases bb))
        · go_roundg (zs.length - (j + 1))
          case measure => have := HGG.out; omega
          case rel =>
            refine ⟨i + 1, j + 1, dk.setIfInBounds i u, by go_num, by go_num, by omega, Nat.le_refl _, HR3.out.set (by have := HDZ.out; omega) u, ?_⟩
            have := HV.out.keep (by simpa using hlt) (by
              rw [HK.out]
              show (!p zs.toArray[j]!) = true
              rw [HEJ.out]
              cases hp : p u with
              | false => rfl
              | true => exact Bool.noConfusion (HBB.out.2 ((HP.out _).1 hp)))
            rwa [HEJ.out] at this
        · go_roundg (zs.length - (j + 1))
          case measure => have := HGG.out; omega
          case rel =>
            refine ⟨i, j + 1, dk, rfl, by go_num, by omega, Nat.le_refl _, HR3.out, HV.out.skip ?_⟩
            rw [HK.out]
            show (!p zs.toArray[j]!) = false
            rw [HEJ.out, (HP.out u).2 (HBB.out.1 trivial)]
            rfl
      · obtain rfl : j = zs.length := by omega
        have hltz : ¬ (zs.length : Int) < (zs.length : Int) := by omega
        have b2 : (0 : Int) ≤ (i : Int) := by omega
        have b3 : (i : Int) ≤ (zs.length : Int) := by omega
        have b4 : (zs.length : Int) ≤ (cap : Int) := by have := HCAP.out; omega
        have b5 : (i : Int) ≤ (cap : Int) := by omega
        have hcl : ∀ ty, (Builtin.clear_ #[51] ty #[.slice (some ⟨g, off + i, none⟩) (zs.length - i) (cap - i)]).run Tryz.prog wr = .ok (.tuple #[]) (wr.setCells g (off + i) (List.replicate (zs.length - i) (.int .i64 0))) :=
          fun ty => run_clear_slice wr _ _ ty _ Tryz.underlying51 zeroI rfl rfl g (off + i) _ _ (by omega) (fun t ht => by rw [show off + i + t = off + (i + t) by omega, (hzr.2.2.2 (i + t) (by omega)).1]; rfl) (fun t ht => by rw [show off + i + t = off + (i + t) by omega]; exact (hzr.2.2.2 (i + t) (by omega)).2)
        clear hzr hI hij hds hdz hjd
        go_wp2
        · exfalso; have := HCAP.out; have := HIJ.out; omega
        go_ret
        have hI := HV.out
        have hl : (zs.filter fun z => !p z).length = i := by
          rw [HFL.out, List.size_toArray]; exact hI.len
        refine ⟨by rw [hl]; rfl, below_setCells HR.out.2.1 _ _ HR.out.1, by rw [size_setCellsZ]; exact HR.out.2.2.1, fun j hj => ?_⟩
        rw [hl] at hj
        rw [World.cell?_setCells_out _ _ _ _ _ (fun _ _ => .inl (by show off + j < off + i; omega)), (HR.out.2.2.2 j (by have := HDZ.out; omega)).1]
        have h1 := hI.low j hj
        rw [← List.size_toArray, ← HFL.out] at h1
        congr 2
        rw [getElem!_pos (zs.filter fun z => !p z) j (by rw [hl]; exact hj)]
        rw [List.getElem?_eq_getElem (by rw [hl]; exact hj)] at h1
        exact (Option.some.inj h1).symm
end Go.Proofs.YtbcmnhbpomjinaaGreat

/- The program's Changed. -/
namespace Go.Proofs.YtbcmnhbpomjinaaGreat
open Go.RowKit
/-- A map of parcels, of so many entries at most. -/
def MapQ (W : World) (b : Nat) (f : Int → Option PV) (n : Nat) : Prop := ∃ L, MapIs W b iv pvV In64 L ∧ IsFn L f ∧ L.length ≤ n
theorem MapQ.on {W W' : World} {b n : Nat} {f : Int → Option PV} (h : MapQ W b f n) (hb : Below W.heap.size W W') : MapQ W' b f n := by
  obtain ⟨L, h1, h2, h3⟩ := h
  exact ⟨L, h1.on hb h1.lt, h2, h3⟩
theorem MapQ.set {W : World} {b n g : Nat} {f : Int → Option PV} {cs : Array Value} {t : TypeId} {fz : Nat × Nat} (h : MapQ W b f n) (hg : W.heap[g]? = some (.cells cs t fz)) (u : Value) : MapQ (W.setCell ⟨g, 0, none⟩ u) b f n := by
  obtain ⟨L, h1, h2, h3⟩ := h
  refine ⟨L, h1.setCell (fun e => ?_) u, h2, h3⟩
  obtain ⟨es, c, hb, -⟩ := h1
  rw [e] at hb
  rw [hb] at hg
  cases hg
theorem firsts_any (ps : List PV) (A : Option Addr) (cap : Nat) (hlen : ps.length ≤ 1000) (hid : ∀ x ∈ ps, In64 x.par.id) (w : World) (hp : Prs w A ps) :
    Calls Tryz.prog 60 #[.slice A ps.length cap] w fun e w' => ∃ b, MapQ w' b (fstV ps) 1000 ∧ e = .returned (.map (some b)) ∧ Below w.heap.size w w' :=
  ((callsIn_wide (n := 4)).1 (firsts_in 4 (by omega) ps A cap (by omega) hid w hp)).mono fun e w' ⟨b, L, h1, h2, h3, h4, h5, _⟩ => ⟨b, ⟨L, h2, h3, by omega⟩, h1, h5⟩
theorem fst_keys {l : List PV} {n : Int} : (∃ y, fstV l n = some y) ↔ n ∈ idsQ (l.map PV.par) := by
  have h := fstV_firstQ l n
  constructor
  · rintro ⟨y, hy⟩
    rw [hy] at h
    obtain ⟨h1, h2⟩ := firstQ_id h.symm
    exact List.mem_map.2 ⟨_, h2, h1⟩
  · intro hn
    obtain ⟨a, ha⟩ := firstQ_some hn
    rw [ha] at h
    obtain ⟨y, hy, -⟩ := Option.map_eq_some_iff.1 h
    exact ⟨y, hy⟩
theorem alike_iff {l l' : List PV} {n : Int} : AlikeB (fstV l) (fstV l') n ↔ ∃ a, firstQ (l.map PV.par) n = some a ∧ firstQ (l'.map PV.par) n = some a := by
  have h := fstV_firstQ l n
  have h' := fstV_firstQ l' n
  constructor
  · rintro ⟨x, y, hx, hy, h1, h2⟩
    rw [hx] at h
    rw [hy] at h'
    refine ⟨x.par, h.symm, ?_⟩
    have e : x.par = y.par := (par_ext _ _).2 ⟨by rw [(firstQ_id h.symm).1, (firstQ_id h'.symm).1], h2, h1⟩
    rw [e]
    exact h'.symm
  · rintro ⟨a, h1, h2⟩
    rw [h1] at h
    rw [h2] at h'
    obtain ⟨x, hx, e1⟩ := Option.map_eq_some_iff.1 h
    obtain ⟨y, hy, e2⟩ := Option.map_eq_some_iff.1 h'
    exact ⟨x, y, hx, hy, by rw [e1, e2], by rw [e1, e2]⟩
set_option maxHeartbeats 1000000 in
theorem delZ_nil (q1 q2 : Value) (w : World) :
    Calls Tryz.prog 63 #[.slice none 0 0, .func (.func 66) #[] #[q1, q2]] w fun e w' => e = .returned (.slice none 0 0) ∧ w' = w := by
  have HI : Hid (∀ W, Calls Tryz.prog 100 #[.slice none 0 0, .func (.func 66) #[] #[q1, q2]] W fun e w' => e = .returned (.int .i64 (-1)) ∧ w' = W) := fun W => by
    go_enter Tryz.func100, Tryz.ntmps100
    go_wp2_with fail
    refine wp_loop_rounds 1 ?_
    rw [rounds_succ]
    go_wp2
    go_ret
    exact ⟨rfl, rfl⟩
  go_enter Tryz.func63, Tryz.ntmps63
  go_wp2_with (go_at_call 100; go_must (refine (HI.out _).mono ?_; rintro e w' ⟨rfl, rfl⟩))
  go_ret
  exact ⟨rfl, rfl⟩
/-- What is left of the numbers, sorted. -/
theorem left_says {l l' : List PV} {L1 L2 L' : List (Int × PV)} {zs : List Int} {p : Int → Bool} (h1 : IsFn L1 (fstV l)) (h2 : IsFn L2 (fstV l')) (hk : ∀ x, x ∈ L'.map Prod.fst ↔ x ∈ L1.map Prod.fst ∨ x ∈ L2.map Prod.fst) (hp : zs.Perm (L'.map Prod.fst)) (hP : ∀ z, p z = true ↔ AlikeB (fstV l) (fstV l') z) (n : Int) :
    n ∈ (zs.filter fun z => !p z) ↔ ChP (l.map PV.par) (l'.map PV.par) n := by
  unfold ChP
  rw [List.mem_filter, hp.mem_iff, hk n, h1.keys n, h2.keys n, fst_keys, fst_keys, ← alike_iff, ← hP n]
  simp
theorem items_of {W : World} {g : Nat} {ws : List Int} (hg : g < W.heap.size) (h : ∀ j, j < ws.length → W.cell? ⟨g, 0 + j, none⟩ = some (.int .i64 ws[j]!)) : Items W W.heap.size (some ⟨g, 0, none⟩) encN ws := fun _ => ⟨_, rfl, hg, fun j u hu => by
  have hj : j < ws.length := by
    have h1 := (List.getElem?_eq_some_iff.1 hu).1
    rw [flat_len (enc := encN) (n := 1) (fun _ => rfl), Nat.mul_one] at h1
    exact h1
  have h3 := flat_get (enc := encN) (n := 1) (fun _ => rfl) ws j ws[j] 0 (List.getElem?_eq_getElem hj) (by omega)
  rw [Nat.mul_one, Nat.add_zero, hu] at h3
  have h4 := h j hj
  rw [getElem!_pos ws j hj] at h4
  rw [add_off]
  rw [Nat.zero_add] at h4
  exact h4.trans h3.symm⟩
set_option maxRecDepth 100000 in
set_option maxHeartbeats 4000000 in
theorem Changed_any (o : List (Int × Int)) (Ao : Option Addr) (co : Nat) (l : List PV) (Ap : Option Addr) (cp : Nat) (o' : List (Int × Int)) (Ao' : Option Addr) (co' : Nat) (l' : List PV) (Ap' : Option Addr) (cp' : Nat) (hl : l.length ≤ 1000) (hl' : l'.length ≤ 1000) (hid : ∀ x ∈ l, In64 x.par.id ∧ x.par.ring.length ≤ 1000000) (hid' : ∀ x ∈ l', In64 x.par.id ∧ x.par.ring.length ≤ 1000000) (w : World) (hp : Prs w Ap l) (hp' : Prs w Ap' l') :
    Calls Tryz.prog 30 #[.agg #[.slice Ao o.length co, .slice Ap l.length cp], .agg #[.slice Ao' o'.length co', .slice Ap' l'.length cp']] w fun e w' => ∃ zs : List Int, zs.Pairwise (· < ·) ∧ (∀ n, n ∈ zs ↔ ChP (l.map PV.par) (l'.map PV.par) n) ∧ Below w.heap.size w w' ∧ ∃ A cap, e = .returned (.slice A zs.length cap) ∧ Items w' w'.heap.size A encN zs := by
  have HF1 := Lib.hid (fun W (hb : Below w.heap.size w W) => firsts_any l Ap cp hl (fun x hx => (hid x hx).1) W (hp.on hb))
  have HF2 := Lib.hid (fun W (hb : Below w.heap.size w W) => firsts_any l' Ap' cp' hl' (fun x hx => (hid' x hx).1) W (hp'.on hb))
  have HP1 := Lib.hid (fun W (hb : Below w.heap.size w W) => hp.on hb)
  have HP2 := Lib.hid (fun W (hb : Below w.heap.size w W) => hp'.on hb)
  have HI1 := Lib.hid hid
  have HI2 := Lib.hid hid'
  have HQ := ((Hold.refl w).new #[.slice Ao o.length co, .slice Ap l.length cp] 26).new #[.slice Ao' o'.length co', .slice Ap' l'.length cp'] 26
  clear hid hid' hp hp' hl hl'
  go_enter Tryz.func30, Tryz.ntmps30
  go_upto_region 1 with (fail)
  simp only [World.size_alloc] at HQ
  generalize (World.alloc _ _) = W1 at HQ ⊢
  obtain ⟨g1, hg1⟩ : ∃ g, w.heap.size + 1 = g := ⟨_, rfl⟩
  rw [hg1] at HQ ⊢
  obtain ⟨g0, hg0⟩ : ∃ g, w.heap.size = g := ⟨_, rfl⟩
  rw [hg0] at HQ ⊢
  have HG0 := Lib.hid hg0
  clear hg0 hg1
  go_cut [5, 6] (fun s5 s6 wx => ∃ g5 g6 b1 b2, s5 = .pointer (some ⟨g5, 0, none⟩) ∧ s6 = .pointer (some ⟨g6, 0, none⟩) ∧ Below w.heap.size w wx ∧ wx.cell? ⟨g5, 0, none⟩ = some (.map (some b1)) ∧ wx.cell? ⟨g6, 0, none⟩ = some (.map (some b2)) ∧ g5 < wx.heap.size ∧ g6 < wx.heap.size ∧ MapQ wx b1 (fstV l) 1000 ∧ MapQ wx b2 (fstV l') 1000)
  case first =>
    have hH := HQ.drew
    clear HQ
    refine wp_region_held_drew (S := fun W => W.cell? ⟨g0, 1, none⟩ = some (.slice Ap l.length cp) ∧ W.cell? ⟨g1, 1, none⟩ = some (.slice Ap' l'.length cp')) (by kernel_rfl) ?_ (fun hHeld => ?_)
    · (try dsimp only)
      exact ⟨hH.cell (.tail _ (.head _)) 1, hH.cell (.head _) 1⟩
    refine takeSome (i := 0) (v := ?_) (by decide +kernel) rfl (by rfl) (by decide +kernel) (by decide +kernel) (fun _ _ _ h => h) (by assumption) ?_ ?_
    rotate_left
    focus (intro w0 hSw; (try dsimp only at hSw); go_simp; (try (with_reducible rfl)); done)
    (try simp only [Act.put, List.getElem_toArray, List.getElem_cons_zero, List.setIfInBounds_toArray, List.set_cons_zero, List.set_cons_succ])
    refine takeSome (i := 1) (v := ?_) (by decide +kernel) rfl (by rfl) (by decide +kernel) (by decide +kernel) (fun _ _ _ h => h) (by assumption) ?_ ?_
    rotate_left
    focus (intro w0 hSw; (try dsimp only at hSw); go_simp; (try (with_reducible rfl)); done)
    (try simp only [Act.put, List.getElem_toArray, List.getElem_cons_zero, List.getElem_cons_succ, List.setIfInBounds_toArray, List.set_cons_zero, List.set_cons_succ])
    refine takeSome (i := 3) (v := ?_) (by decide +kernel) rfl (by rfl) (by decide +kernel) (by decide +kernel) (fun _ _ _ h => h) (by assumption) ?_ ?_
    rotate_left
    focus (intro w0 hSw; (try dsimp only at hSw); go_simp; (try (with_reducible rfl)); done)
    (try simp only [Act.put, List.getElem_toArray, List.getElem_cons_zero, List.getElem_cons_succ, List.setIfInBounds_toArray, List.set_cons_zero, List.set_cons_succ])
    refine takeSome (i := 4) (v := ?_) (by decide +kernel) rfl (by rfl) (by decide +kernel) (by decide +kernel) (fun _ _ _ h => h) (by assumption) ?_ ?_
    rotate_left
    focus (intro w0 hSw; (try dsimp only at hSw); go_simp; (try (with_reducible rfl)); done)
    (try simp only [Act.put, List.getElem_toArray, List.getElem_cons_zero, List.getElem_cons_succ, List.setIfInBounds_toArray, List.set_cons_zero, List.set_cons_succ])
    have h2 := hH
    clear hH
    generalize (World.drew _) = W2 at h2 hHeld ⊢
    refine wpAnyH_ready (rs := [2, 6, 7]) (by decide +kernel) (by simp) ?_
    refine AllReadyH.cons rfl (fun K hK => ?_) (AllReadyH.cons rfl (fun K hK => ?_) (AllReadyH.cons rfl (fun K hK => ?_) AllReadyH.nil))
    · (try simp only [List.getElem_toArray, List.getElem_cons_zero, List.getElem_cons_succ])
      go_simp
      go_at_call 60
      refine (HF1.out _ h2.1).mono ?_
      rintro e' W3 ⟨b1, m1_3, rfl, hB2⟩
      have h3 := h2.on hB2
      refine hK.out _ _ ?_ (fun hHeld => ?_)
      focus ((try dsimp only); exact ⟨h3.cell (.tail _ (.head _)) 1, h3.cell (.head _) 1⟩; done)
      clear hK K
      (try simp only [Act.put, List.getElem_toArray, List.getElem_cons_zero, List.getElem_cons_succ, List.setIfInBounds_toArray, List.set_cons_zero, List.set_cons_succ])
      refine wpAnyH_ready (rs := [5, 6, 7]) (by decide +kernel) (by simp) ?_
      refine AllReadyH.cons rfl (fun K hK => ?_) (AllReadyH.cons rfl (fun K hK => ?_) (AllReadyH.cons rfl (fun K hK => ?_) AllReadyH.nil))
      · (try simp only [List.getElem_toArray, List.getElem_cons_zero, List.getElem_cons_succ])
        go_simp
        go_at_call 60
        refine (HF2.out _ h3.1).mono ?_
        rintro e' W4 ⟨b2, m2_4, rfl, hB3⟩
        have h4 := h3.on hB3
        have m1_4 := m1_3.on hB3
        refine hK.out _ _ ?_ (fun hHeld => ?_)
        focus ((try dsimp only); exact ⟨h4.cell (.tail _ (.head _)) 1, h4.cell (.head _) 1⟩; done)
        clear hK K
        (try simp only [Act.put, List.getElem_toArray, List.getElem_cons_zero, List.getElem_cons_succ, List.setIfInBounds_toArray, List.set_cons_zero, List.set_cons_succ])
        refine wpAnyH_ready (rs := [6, 7]) (by decide +kernel) (by simp) ?_
        refine AllReadyH.cons rfl (fun K hK => ?_) (AllReadyH.cons rfl (fun K hK => ?_) AllReadyH.nil)
        · have h5 := h4.new #[.map none] 97
          have m1_5 := m1_4.on ((Below.refl _ W4).alloc (Nat.le_refl _) (Obj.cells #[.map none] 97 (0, 0)))
          have m2_5 := m2_4.on ((Below.refl _ W4).alloc (Nat.le_refl _) (Obj.cells #[.map none] 97 (0, 0)))
          (try simp only [List.getElem_toArray, List.getElem_cons_zero, List.getElem_cons_succ])
          go_simp
          refine hK.out _ _ ?_ (fun hHeld => ?_)
          focus ((try dsimp only); exact ⟨h5.cell (.tail _ (.tail _ (.head _))) 1, h5.cell (.tail _ (.head _)) 1⟩; done)
          clear hK K
          (try simp only [Act.put, List.getElem_toArray, List.getElem_cons_zero, List.getElem_cons_succ, List.setIfInBounds_toArray, List.set_cons_zero, List.set_cons_succ])
          generalize (World.alloc _ _) = W5 at h5 m1_5 m2_5 hHeld ⊢
          generalize W4.heap.size = g5 at h5 ⊢
          refine wpAnyH_ready (rs := [7]) (by decide +kernel) (by simp) ?_
          refine AllReadyH.cons rfl (fun K hK => ?_) AllReadyH.nil
          have h6 := h5.new #[.map none] 97
          have m1_6 := m1_5.on ((Below.refl _ W5).alloc (Nat.le_refl _) (Obj.cells #[.map none] 97 (0, 0)))
          have m2_6 := m2_5.on ((Below.refl _ W5).alloc (Nat.le_refl _) (Obj.cells #[.map none] 97 (0, 0)))
          (try simp only [List.getElem_toArray, List.getElem_cons_zero, List.getElem_cons_succ])
          go_simp
          refine hK.out _ _ ?_ (fun hHeld => ?_)
          focus ((try dsimp only); exact ⟨h6.cell (.tail _ (.tail _ (.tail _ (.head _)))) 1, h6.cell (.tail _ (.tail _ (.head _))) 1⟩; done)
          clear hK K
          (try simp only [Act.put, List.getElem_toArray, List.getElem_cons_zero, List.getElem_cons_succ, List.setIfInBounds_toArray, List.set_cons_zero, List.set_cons_succ])
          generalize (World.alloc _ _) = W6 at h6 m1_6 m2_6 hHeld ⊢
          generalize W5.heap.size = g6 at h6 ⊢
          have c5 := h6.cell (.tail _ (.head _)) 0
          have f5 := h6.frozen (.tail _ (.head _)) 0
          simp only [List.getElem?_toArray, List.getElem?_cons_zero] at c5
          have hA := h6.swap 0 (.map (some b1))
          have mA1 := m1_6.set (h6.2.1 _ (.tail _ (.head _))).1 (.map (some b1))
          have mA2 := m2_6.set (h6.2.1 _ (.tail _ (.head _))).1 (.map (some b1))
          refine wpAnyH_ready (rs := [8]) (by decide +kernel) (by simp) ?_
          refine AllReadyH.cons rfl (fun K hK => ?_) AllReadyH.nil
          (try simp only [List.getElem_toArray, List.getElem_cons_zero, List.getElem_cons_succ])
          go_simp
          refine hK.out _ _ ?_ (fun hHeld => ?_)
          focus ((try dsimp only); exact ⟨hA.cell (.tail _ (.tail _ (.tail _ (.head _)))) 1, hA.cell (.tail _ (.tail _ (.head _))) 1⟩; done)
          clear hK K
          (try simp only [Act.put, List.getElem_toArray, List.getElem_cons_zero, List.getElem_cons_succ, List.setIfInBounds_toArray, List.set_cons_zero, List.set_cons_succ])
          generalize (World.setCell _ _ _) = WA at hA mA1 mA2 hHeld ⊢
          have c6 := hA.cell (.head _) 0
          have f6 := hA.frozen (.head _) 0
          simp only [List.getElem?_toArray, List.getElem?_cons_zero] at c6
          have hC := hA.set 0 (.map (some b2))
          have mC1 := mA1.set (hA.2.1 _ (.head _)).1 (.map (some b2))
          have mC2 := mA2.set (hA.2.1 _ (.head _)).1 (.map (some b2))
          refine wpAnyH_ready (rs := [9]) (by decide +kernel) (by simp) ?_
          refine AllReadyH.cons rfl (fun K hK => ?_) AllReadyH.nil
          (try simp only [List.getElem_toArray, List.getElem_cons_zero, List.getElem_cons_succ])
          go_simp
          refine hK.out _ _ ?_ (fun hHeld => ?_)
          focus ((try dsimp only); exact ⟨hC.cell (.tail _ (.tail _ (.tail _ (.head _)))) 1, hC.cell (.tail _ (.tail _ (.head _))) 1⟩; done)
          clear hK K
          (try simp only [Act.put, List.getElem_toArray, List.getElem_cons_zero, List.getElem_cons_succ, List.setIfInBounds_toArray, List.set_cons_zero, List.set_cons_succ])
          refine wpAnyH_done (by decide +kernel) ?_ _
          go_wp2_with fail
          go_meet
          exact ⟨_, _, b1, b2, rfl, rfl, hC.1, hC.cell (.tail _ (.head _)) 0, hC.cell (.head _) 0, hC.lt (.tail _ (.head _)), hC.lt (.head _), mC1, mC2⟩
        · have h5 := h4.new #[.map none] 97
          have m1_5 := m1_4.on ((Below.refl _ W4).alloc (Nat.le_refl _) (Obj.cells #[.map none] 97 (0, 0)))
          have m2_5 := m2_4.on ((Below.refl _ W4).alloc (Nat.le_refl _) (Obj.cells #[.map none] 97 (0, 0)))
          (try simp only [List.getElem_toArray, List.getElem_cons_zero, List.getElem_cons_succ])
          go_simp
          refine hK.out _ _ ?_ (fun hHeld => ?_)
          focus ((try dsimp only); exact ⟨h5.cell (.tail _ (.tail _ (.head _))) 1, h5.cell (.tail _ (.head _)) 1⟩; done)
          clear hK K
          (try simp only [Act.put, List.getElem_toArray, List.getElem_cons_zero, List.getElem_cons_succ, List.setIfInBounds_toArray, List.set_cons_zero, List.set_cons_succ])
          generalize (World.alloc _ _) = W5 at h5 m1_5 m2_5 hHeld ⊢
          generalize W4.heap.size = g6 at h5 ⊢
          refine wpAnyH_ready (rs := [6]) (by decide +kernel) (by simp) ?_
          refine AllReadyH.cons rfl (fun K hK => ?_) AllReadyH.nil
          have h6 := h5.new #[.map none] 97
          have m1_6 := m1_5.on ((Below.refl _ W5).alloc (Nat.le_refl _) (Obj.cells #[.map none] 97 (0, 0)))
          have m2_6 := m2_5.on ((Below.refl _ W5).alloc (Nat.le_refl _) (Obj.cells #[.map none] 97 (0, 0)))
          (try simp only [List.getElem_toArray, List.getElem_cons_zero, List.getElem_cons_succ])
          go_simp
          refine hK.out _ _ ?_ (fun hHeld => ?_)
          focus ((try dsimp only); exact ⟨h6.cell (.tail _ (.tail _ (.tail _ (.head _)))) 1, h6.cell (.tail _ (.tail _ (.head _))) 1⟩; done)
          clear hK K
          (try simp only [Act.put, List.getElem_toArray, List.getElem_cons_zero, List.getElem_cons_succ, List.setIfInBounds_toArray, List.set_cons_zero, List.set_cons_succ])
          generalize (World.alloc _ _) = W6 at h6 m1_6 m2_6 hHeld ⊢
          generalize W5.heap.size = g5 at h6 ⊢
          have c5 := h6.cell (.head _) 0
          have f5 := h6.frozen (.head _) 0
          simp only [List.getElem?_toArray, List.getElem?_cons_zero] at c5
          have hA := h6.set 0 (.map (some b1))
          have mA1 := m1_6.set (h6.2.1 _ (.head _)).1 (.map (some b1))
          have mA2 := m2_6.set (h6.2.1 _ (.head _)).1 (.map (some b1))
          refine wpAnyH_ready (rs := [8]) (by decide +kernel) (by simp) ?_
          refine AllReadyH.cons rfl (fun K hK => ?_) AllReadyH.nil
          (try simp only [List.getElem_toArray, List.getElem_cons_zero, List.getElem_cons_succ])
          go_simp
          refine hK.out _ _ ?_ (fun hHeld => ?_)
          focus ((try dsimp only); exact ⟨hA.cell (.tail _ (.tail _ (.tail _ (.head _)))) 1, hA.cell (.tail _ (.tail _ (.head _))) 1⟩; done)
          clear hK K
          (try simp only [Act.put, List.getElem_toArray, List.getElem_cons_zero, List.getElem_cons_succ, List.setIfInBounds_toArray, List.set_cons_zero, List.set_cons_succ])
          generalize (World.setCell _ _ _) = WA at hA mA1 mA2 hHeld ⊢
          have c6 := hA.cell (.tail _ (.head _)) 0
          have f6 := hA.frozen (.tail _ (.head _)) 0
          simp only [List.getElem?_toArray, List.getElem?_cons_zero] at c6
          have hC := hA.swap 0 (.map (some b2))
          have mC1 := mA1.set (hA.2.1 _ (.tail _ (.head _))).1 (.map (some b2))
          have mC2 := mA2.set (hA.2.1 _ (.tail _ (.head _))).1 (.map (some b2))
          refine wpAnyH_ready (rs := [9]) (by decide +kernel) (by simp) ?_
          refine AllReadyH.cons rfl (fun K hK => ?_) AllReadyH.nil
          (try simp only [List.getElem_toArray, List.getElem_cons_zero, List.getElem_cons_succ])
          go_simp
          refine hK.out _ _ ?_ (fun hHeld => ?_)
          focus ((try dsimp only); exact ⟨hC.cell (.tail _ (.tail _ (.tail _ (.head _)))) 1, hC.cell (.tail _ (.tail _ (.head _))) 1⟩; done)
          clear hK K
          (try simp only [Act.put, List.getElem_toArray, List.getElem_cons_zero, List.getElem_cons_succ, List.setIfInBounds_toArray, List.set_cons_zero, List.set_cons_succ])
          refine wpAnyH_done (by decide +kernel) ?_ _
          go_wp2_with fail
          go_meet
          exact ⟨_, _, b1, b2, rfl, rfl, hC.1, hC.cell (.head _) 0, hC.cell (.tail _ (.head _)) 0, hC.lt (.head _), hC.lt (.tail _ (.head _)), mC1, mC2⟩
      · have h4 := h3.new #[.map none] 97
        have m1_4 := m1_3.on ((Below.refl _ W3).alloc (Nat.le_refl _) (Obj.cells #[.map none] 97 (0, 0)))
        (try simp only [List.getElem_toArray, List.getElem_cons_zero, List.getElem_cons_succ])
        go_simp
        refine hK.out _ _ ?_ (fun hHeld => ?_)
        focus ((try dsimp only); exact ⟨h4.cell (.tail _ (.tail _ (.head _))) 1, h4.cell (.tail _ (.head _)) 1⟩; done)
        clear hK K
        (try simp only [Act.put, List.getElem_toArray, List.getElem_cons_zero, List.getElem_cons_succ, List.setIfInBounds_toArray, List.set_cons_zero, List.set_cons_succ])
        generalize (World.alloc _ _) = W4 at h4 m1_4 hHeld ⊢
        generalize W3.heap.size = g5 at h4 ⊢
        refine wpAnyH_ready (rs := [5, 7]) (by decide +kernel) (by simp) ?_
        refine AllReadyH.cons rfl (fun K hK => ?_) (AllReadyH.cons rfl (fun K hK => ?_) AllReadyH.nil)
        · (try simp only [List.getElem_toArray, List.getElem_cons_zero, List.getElem_cons_succ])
          go_simp
          go_at_call 60
          refine (HF2.out _ h4.1).mono ?_
          rintro e' W5 ⟨b2, m2_5, rfl, hB4⟩
          have h5 := h4.on hB4
          have m1_5 := m1_4.on hB4
          refine hK.out _ _ ?_ (fun hHeld => ?_)
          focus ((try dsimp only); exact ⟨h5.cell (.tail _ (.tail _ (.head _))) 1, h5.cell (.tail _ (.head _)) 1⟩; done)
          clear hK K
          (try simp only [Act.put, List.getElem_toArray, List.getElem_cons_zero, List.getElem_cons_succ, List.setIfInBounds_toArray, List.set_cons_zero, List.set_cons_succ])
          refine wpAnyH_ready (rs := [7]) (by decide +kernel) (by simp) ?_
          refine AllReadyH.cons rfl (fun K hK => ?_) AllReadyH.nil
          have h6 := h5.new #[.map none] 97
          have m1_6 := m1_5.on ((Below.refl _ W5).alloc (Nat.le_refl _) (Obj.cells #[.map none] 97 (0, 0)))
          have m2_6 := m2_5.on ((Below.refl _ W5).alloc (Nat.le_refl _) (Obj.cells #[.map none] 97 (0, 0)))
          (try simp only [List.getElem_toArray, List.getElem_cons_zero, List.getElem_cons_succ])
          go_simp
          refine hK.out _ _ ?_ (fun hHeld => ?_)
          focus ((try dsimp only); exact ⟨h6.cell (.tail _ (.tail _ (.tail _ (.head _)))) 1, h6.cell (.tail _ (.tail _ (.head _))) 1⟩; done)
          clear hK K
          (try simp only [Act.put, List.getElem_toArray, List.getElem_cons_zero, List.getElem_cons_succ, List.setIfInBounds_toArray, List.set_cons_zero, List.set_cons_succ])
          generalize (World.alloc _ _) = W6 at h6 m1_6 m2_6 hHeld ⊢
          generalize W5.heap.size = g6 at h6 ⊢
          have c5 := h6.cell (.tail _ (.head _)) 0
          have f5 := h6.frozen (.tail _ (.head _)) 0
          simp only [List.getElem?_toArray, List.getElem?_cons_zero] at c5
          have hA := h6.swap 0 (.map (some b1))
          have mA1 := m1_6.set (h6.2.1 _ (.tail _ (.head _))).1 (.map (some b1))
          have mA2 := m2_6.set (h6.2.1 _ (.tail _ (.head _))).1 (.map (some b1))
          refine wpAnyH_ready (rs := [8]) (by decide +kernel) (by simp) ?_
          refine AllReadyH.cons rfl (fun K hK => ?_) AllReadyH.nil
          (try simp only [List.getElem_toArray, List.getElem_cons_zero, List.getElem_cons_succ])
          go_simp
          refine hK.out _ _ ?_ (fun hHeld => ?_)
          focus ((try dsimp only); exact ⟨hA.cell (.tail _ (.tail _ (.tail _ (.head _)))) 1, hA.cell (.tail _ (.tail _ (.head _))) 1⟩; done)
          clear hK K
          (try simp only [Act.put, List.getElem_toArray, List.getElem_cons_zero, List.getElem_cons_succ, List.setIfInBounds_toArray, List.set_cons_zero, List.set_cons_succ])
          generalize (World.setCell _ _ _) = WA at hA mA1 mA2 hHeld ⊢
          have c6 := hA.cell (.head _) 0
          have f6 := hA.frozen (.head _) 0
          simp only [List.getElem?_toArray, List.getElem?_cons_zero] at c6
          have hC := hA.set 0 (.map (some b2))
          have mC1 := mA1.set (hA.2.1 _ (.head _)).1 (.map (some b2))
          have mC2 := mA2.set (hA.2.1 _ (.head _)).1 (.map (some b2))
          refine wpAnyH_ready (rs := [9]) (by decide +kernel) (by simp) ?_
          refine AllReadyH.cons rfl (fun K hK => ?_) AllReadyH.nil
          (try simp only [List.getElem_toArray, List.getElem_cons_zero, List.getElem_cons_succ])
          go_simp
          refine hK.out _ _ ?_ (fun hHeld => ?_)
          focus ((try dsimp only); exact ⟨hC.cell (.tail _ (.tail _ (.tail _ (.head _)))) 1, hC.cell (.tail _ (.tail _ (.head _))) 1⟩; done)
          clear hK K
          (try simp only [Act.put, List.getElem_toArray, List.getElem_cons_zero, List.getElem_cons_succ, List.setIfInBounds_toArray, List.set_cons_zero, List.set_cons_succ])
          refine wpAnyH_done (by decide +kernel) ?_ _
          go_wp2_with fail
          go_meet
          exact ⟨_, _, b1, b2, rfl, rfl, hC.1, hC.cell (.tail _ (.head _)) 0, hC.cell (.head _) 0, hC.lt (.tail _ (.head _)), hC.lt (.head _), mC1, mC2⟩
        · have h5 := h4.new #[.map none] 97
          have m1_5 := m1_4.on ((Below.refl _ W4).alloc (Nat.le_refl _) (Obj.cells #[.map none] 97 (0, 0)))
          (try simp only [List.getElem_toArray, List.getElem_cons_zero, List.getElem_cons_succ])
          go_simp
          refine hK.out _ _ ?_ (fun hHeld => ?_)
          focus ((try dsimp only); exact ⟨h5.cell (.tail _ (.tail _ (.tail _ (.head _)))) 1, h5.cell (.tail _ (.tail _ (.head _))) 1⟩; done)
          clear hK K
          (try simp only [Act.put, List.getElem_toArray, List.getElem_cons_zero, List.getElem_cons_succ, List.setIfInBounds_toArray, List.set_cons_zero, List.set_cons_succ])
          generalize (World.alloc _ _) = W5 at h5 m1_5 hHeld ⊢
          generalize W4.heap.size = g6 at h5 ⊢
          refine wpAnyH_ready (rs := [5]) (by decide +kernel) (by simp) ?_
          refine AllReadyH.cons rfl (fun K hK => ?_) AllReadyH.nil
          (try simp only [List.getElem_toArray, List.getElem_cons_zero, List.getElem_cons_succ])
          go_simp
          go_at_call 60
          refine (HF2.out _ h5.1).mono ?_
          rintro e' W6 ⟨b2, m2_6, rfl, hB5⟩
          have h6 := h5.on hB5
          have m1_6 := m1_5.on hB5
          refine hK.out _ _ ?_ (fun hHeld => ?_)
          focus ((try dsimp only); exact ⟨h6.cell (.tail _ (.tail _ (.tail _ (.head _)))) 1, h6.cell (.tail _ (.tail _ (.head _))) 1⟩; done)
          clear hK K
          (try simp only [Act.put, List.getElem_toArray, List.getElem_cons_zero, List.getElem_cons_succ, List.setIfInBounds_toArray, List.set_cons_zero, List.set_cons_succ])
          have c5 := h6.cell (.tail _ (.head _)) 0
          have f5 := h6.frozen (.tail _ (.head _)) 0
          simp only [List.getElem?_toArray, List.getElem?_cons_zero] at c5
          have hA := h6.swap 0 (.map (some b1))
          have mA1 := m1_6.set (h6.2.1 _ (.tail _ (.head _))).1 (.map (some b1))
          have mA2 := m2_6.set (h6.2.1 _ (.tail _ (.head _))).1 (.map (some b1))
          refine wpAnyH_ready (rs := [8]) (by decide +kernel) (by simp) ?_
          refine AllReadyH.cons rfl (fun K hK => ?_) AllReadyH.nil
          (try simp only [List.getElem_toArray, List.getElem_cons_zero, List.getElem_cons_succ])
          go_simp
          refine hK.out _ _ ?_ (fun hHeld => ?_)
          focus ((try dsimp only); exact ⟨hA.cell (.tail _ (.tail _ (.tail _ (.head _)))) 1, hA.cell (.tail _ (.tail _ (.head _))) 1⟩; done)
          clear hK K
          (try simp only [Act.put, List.getElem_toArray, List.getElem_cons_zero, List.getElem_cons_succ, List.setIfInBounds_toArray, List.set_cons_zero, List.set_cons_succ])
          generalize (World.setCell _ _ _) = WA at hA mA1 mA2 hHeld ⊢
          have c6 := hA.cell (.head _) 0
          have f6 := hA.frozen (.head _) 0
          simp only [List.getElem?_toArray, List.getElem?_cons_zero] at c6
          have hC := hA.set 0 (.map (some b2))
          have mC1 := mA1.set (hA.2.1 _ (.head _)).1 (.map (some b2))
          have mC2 := mA2.set (hA.2.1 _ (.head _)).1 (.map (some b2))
          refine wpAnyH_ready (rs := [9]) (by decide +kernel) (by simp) ?_
          refine AllReadyH.cons rfl (fun K hK => ?_) AllReadyH.nil
          (try simp only [List.getElem_toArray, List.getElem_cons_zero, List.getElem_cons_succ])
          go_simp
          refine hK.out _ _ ?_ (fun hHeld => ?_)
          focus ((try dsimp only); exact ⟨hC.cell (.tail _ (.tail _ (.tail _ (.head _)))) 1, hC.cell (.tail _ (.tail _ (.head _))) 1⟩; done)
          clear hK K
          (try simp only [Act.put, List.getElem_toArray, List.getElem_cons_zero, List.getElem_cons_succ, List.setIfInBounds_toArray, List.set_cons_zero, List.set_cons_succ])
          refine wpAnyH_done (by decide +kernel) ?_ _
          go_wp2_with fail
          go_meet
          exact ⟨_, _, b1, b2, rfl, rfl, hC.1, hC.cell (.tail _ (.head _)) 0, hC.cell (.head _) 0, hC.lt (.tail _ (.head _)), hC.lt (.head _), mC1, mC2⟩
      · have h4 := h3.new #[.map none] 97
        have m1_4 := m1_3.on ((Below.refl _ W3).alloc (Nat.le_refl _) (Obj.cells #[.map none] 97 (0, 0)))
        (try simp only [List.getElem_toArray, List.getElem_cons_zero, List.getElem_cons_succ])
        go_simp
        refine hK.out _ _ ?_ (fun hHeld => ?_)
        focus ((try dsimp only); exact ⟨h4.cell (.tail _ (.tail _ (.head _))) 1, h4.cell (.tail _ (.head _)) 1⟩; done)
        clear hK K
        (try simp only [Act.put, List.getElem_toArray, List.getElem_cons_zero, List.getElem_cons_succ, List.setIfInBounds_toArray, List.set_cons_zero, List.set_cons_succ])
        generalize (World.alloc _ _) = W4 at h4 m1_4 hHeld ⊢
        generalize W3.heap.size = g6 at h4 ⊢
        refine wpAnyH_ready (rs := [5, 6]) (by decide +kernel) (by simp) ?_
        refine AllReadyH.cons rfl (fun K hK => ?_) (AllReadyH.cons rfl (fun K hK => ?_) AllReadyH.nil)
        · (try simp only [List.getElem_toArray, List.getElem_cons_zero, List.getElem_cons_succ])
          go_simp
          go_at_call 60
          refine (HF2.out _ h4.1).mono ?_
          rintro e' W5 ⟨b2, m2_5, rfl, hB4⟩
          have h5 := h4.on hB4
          have m1_5 := m1_4.on hB4
          refine hK.out _ _ ?_ (fun hHeld => ?_)
          focus ((try dsimp only); exact ⟨h5.cell (.tail _ (.tail _ (.head _))) 1, h5.cell (.tail _ (.head _)) 1⟩; done)
          clear hK K
          (try simp only [Act.put, List.getElem_toArray, List.getElem_cons_zero, List.getElem_cons_succ, List.setIfInBounds_toArray, List.set_cons_zero, List.set_cons_succ])
          refine wpAnyH_ready (rs := [6]) (by decide +kernel) (by simp) ?_
          refine AllReadyH.cons rfl (fun K hK => ?_) AllReadyH.nil
          have h6 := h5.new #[.map none] 97
          have m1_6 := m1_5.on ((Below.refl _ W5).alloc (Nat.le_refl _) (Obj.cells #[.map none] 97 (0, 0)))
          have m2_6 := m2_5.on ((Below.refl _ W5).alloc (Nat.le_refl _) (Obj.cells #[.map none] 97 (0, 0)))
          (try simp only [List.getElem_toArray, List.getElem_cons_zero, List.getElem_cons_succ])
          go_simp
          refine hK.out _ _ ?_ (fun hHeld => ?_)
          focus ((try dsimp only); exact ⟨h6.cell (.tail _ (.tail _ (.tail _ (.head _)))) 1, h6.cell (.tail _ (.tail _ (.head _))) 1⟩; done)
          clear hK K
          (try simp only [Act.put, List.getElem_toArray, List.getElem_cons_zero, List.getElem_cons_succ, List.setIfInBounds_toArray, List.set_cons_zero, List.set_cons_succ])
          generalize (World.alloc _ _) = W6 at h6 m1_6 m2_6 hHeld ⊢
          generalize W5.heap.size = g5 at h6 ⊢
          have c5 := h6.cell (.head _) 0
          have f5 := h6.frozen (.head _) 0
          simp only [List.getElem?_toArray, List.getElem?_cons_zero] at c5
          have hA := h6.set 0 (.map (some b1))
          have mA1 := m1_6.set (h6.2.1 _ (.head _)).1 (.map (some b1))
          have mA2 := m2_6.set (h6.2.1 _ (.head _)).1 (.map (some b1))
          refine wpAnyH_ready (rs := [8]) (by decide +kernel) (by simp) ?_
          refine AllReadyH.cons rfl (fun K hK => ?_) AllReadyH.nil
          (try simp only [List.getElem_toArray, List.getElem_cons_zero, List.getElem_cons_succ])
          go_simp
          refine hK.out _ _ ?_ (fun hHeld => ?_)
          focus ((try dsimp only); exact ⟨hA.cell (.tail _ (.tail _ (.tail _ (.head _)))) 1, hA.cell (.tail _ (.tail _ (.head _))) 1⟩; done)
          clear hK K
          (try simp only [Act.put, List.getElem_toArray, List.getElem_cons_zero, List.getElem_cons_succ, List.setIfInBounds_toArray, List.set_cons_zero, List.set_cons_succ])
          generalize (World.setCell _ _ _) = WA at hA mA1 mA2 hHeld ⊢
          have c6 := hA.cell (.tail _ (.head _)) 0
          have f6 := hA.frozen (.tail _ (.head _)) 0
          simp only [List.getElem?_toArray, List.getElem?_cons_zero] at c6
          have hC := hA.swap 0 (.map (some b2))
          have mC1 := mA1.set (hA.2.1 _ (.tail _ (.head _))).1 (.map (some b2))
          have mC2 := mA2.set (hA.2.1 _ (.tail _ (.head _))).1 (.map (some b2))
          refine wpAnyH_ready (rs := [9]) (by decide +kernel) (by simp) ?_
          refine AllReadyH.cons rfl (fun K hK => ?_) AllReadyH.nil
          (try simp only [List.getElem_toArray, List.getElem_cons_zero, List.getElem_cons_succ])
          go_simp
          refine hK.out _ _ ?_ (fun hHeld => ?_)
          focus ((try dsimp only); exact ⟨hC.cell (.tail _ (.tail _ (.tail _ (.head _)))) 1, hC.cell (.tail _ (.tail _ (.head _))) 1⟩; done)
          clear hK K
          (try simp only [Act.put, List.getElem_toArray, List.getElem_cons_zero, List.getElem_cons_succ, List.setIfInBounds_toArray, List.set_cons_zero, List.set_cons_succ])
          refine wpAnyH_done (by decide +kernel) ?_ _
          go_wp2_with fail
          go_meet
          exact ⟨_, _, b1, b2, rfl, rfl, hC.1, hC.cell (.head _) 0, hC.cell (.tail _ (.head _)) 0, hC.lt (.head _), hC.lt (.tail _ (.head _)), mC1, mC2⟩
        · have h5 := h4.new #[.map none] 97
          have m1_5 := m1_4.on ((Below.refl _ W4).alloc (Nat.le_refl _) (Obj.cells #[.map none] 97 (0, 0)))
          (try simp only [List.getElem_toArray, List.getElem_cons_zero, List.getElem_cons_succ])
          go_simp
          refine hK.out _ _ ?_ (fun hHeld => ?_)
          focus ((try dsimp only); exact ⟨h5.cell (.tail _ (.tail _ (.tail _ (.head _)))) 1, h5.cell (.tail _ (.tail _ (.head _))) 1⟩; done)
          clear hK K
          (try simp only [Act.put, List.getElem_toArray, List.getElem_cons_zero, List.getElem_cons_succ, List.setIfInBounds_toArray, List.set_cons_zero, List.set_cons_succ])
          generalize (World.alloc _ _) = W5 at h5 m1_5 hHeld ⊢
          generalize W4.heap.size = g5 at h5 ⊢
          refine wpAnyH_ready (rs := [5]) (by decide +kernel) (by simp) ?_
          refine AllReadyH.cons rfl (fun K hK => ?_) AllReadyH.nil
          (try simp only [List.getElem_toArray, List.getElem_cons_zero, List.getElem_cons_succ])
          go_simp
          go_at_call 60
          refine (HF2.out _ h5.1).mono ?_
          rintro e' W6 ⟨b2, m2_6, rfl, hB5⟩
          have h6 := h5.on hB5
          have m1_6 := m1_5.on hB5
          refine hK.out _ _ ?_ (fun hHeld => ?_)
          focus ((try dsimp only); exact ⟨h6.cell (.tail _ (.tail _ (.tail _ (.head _)))) 1, h6.cell (.tail _ (.tail _ (.head _))) 1⟩; done)
          clear hK K
          (try simp only [Act.put, List.getElem_toArray, List.getElem_cons_zero, List.getElem_cons_succ, List.setIfInBounds_toArray, List.set_cons_zero, List.set_cons_succ])
          have c5 := h6.cell (.head _) 0
          have f5 := h6.frozen (.head _) 0
          simp only [List.getElem?_toArray, List.getElem?_cons_zero] at c5
          have hA := h6.set 0 (.map (some b1))
          have mA1 := m1_6.set (h6.2.1 _ (.head _)).1 (.map (some b1))
          have mA2 := m2_6.set (h6.2.1 _ (.head _)).1 (.map (some b1))
          refine wpAnyH_ready (rs := [8]) (by decide +kernel) (by simp) ?_
          refine AllReadyH.cons rfl (fun K hK => ?_) AllReadyH.nil
          (try simp only [List.getElem_toArray, List.getElem_cons_zero, List.getElem_cons_succ])
          go_simp
          refine hK.out _ _ ?_ (fun hHeld => ?_)
          focus ((try dsimp only); exact ⟨hA.cell (.tail _ (.tail _ (.tail _ (.head _)))) 1, hA.cell (.tail _ (.tail _ (.head _))) 1⟩; done)
          clear hK K
          (try simp only [Act.put, List.getElem_toArray, List.getElem_cons_zero, List.getElem_cons_succ, List.setIfInBounds_toArray, List.set_cons_zero, List.set_cons_succ])
          generalize (World.setCell _ _ _) = WA at hA mA1 mA2 hHeld ⊢
          have c6 := hA.cell (.tail _ (.head _)) 0
          have f6 := hA.frozen (.tail _ (.head _)) 0
          simp only [List.getElem?_toArray, List.getElem?_cons_zero] at c6
          have hC := hA.swap 0 (.map (some b2))
          have mC1 := mA1.set (hA.2.1 _ (.tail _ (.head _))).1 (.map (some b2))
          have mC2 := mA2.set (hA.2.1 _ (.tail _ (.head _))).1 (.map (some b2))
          refine wpAnyH_ready (rs := [9]) (by decide +kernel) (by simp) ?_
          refine AllReadyH.cons rfl (fun K hK => ?_) AllReadyH.nil
          (try simp only [List.getElem_toArray, List.getElem_cons_zero, List.getElem_cons_succ])
          go_simp
          refine hK.out _ _ ?_ (fun hHeld => ?_)
          focus ((try dsimp only); exact ⟨hC.cell (.tail _ (.tail _ (.tail _ (.head _)))) 1, hC.cell (.tail _ (.tail _ (.head _))) 1⟩; done)
          clear hK K
          (try simp only [Act.put, List.getElem_toArray, List.getElem_cons_zero, List.getElem_cons_succ, List.setIfInBounds_toArray, List.set_cons_zero, List.set_cons_succ])
          refine wpAnyH_done (by decide +kernel) ?_ _
          go_wp2_with fail
          go_meet
          exact ⟨_, _, b1, b2, rfl, rfl, hC.1, hC.cell (.head _) 0, hC.cell (.tail _ (.head _)) 0, hC.lt (.head _), hC.lt (.tail _ (.head _)), mC1, mC2⟩
    · have h3 := h2.new #[.map none] 97
      (try simp only [List.getElem_toArray, List.getElem_cons_zero, List.getElem_cons_succ])
      go_simp
      refine hK.out _ _ ?_ (fun hHeld => ?_)
      focus ((try dsimp only); exact ⟨h3.cell (.tail _ (.tail _ (.head _))) 1, h3.cell (.tail _ (.head _)) 1⟩; done)
      clear hK K
      (try simp only [Act.put, List.getElem_toArray, List.getElem_cons_zero, List.getElem_cons_succ, List.setIfInBounds_toArray, List.set_cons_zero, List.set_cons_succ])
      generalize (World.alloc _ _) = W3 at h3  hHeld ⊢
      generalize W2.heap.size = g5 at h3 ⊢
      refine wpAnyH_ready (rs := [2, 7]) (by decide +kernel) (by simp) ?_
      refine AllReadyH.cons rfl (fun K hK => ?_) (AllReadyH.cons rfl (fun K hK => ?_) AllReadyH.nil)
      · (try simp only [List.getElem_toArray, List.getElem_cons_zero, List.getElem_cons_succ])
        go_simp
        go_at_call 60
        refine (HF1.out _ h3.1).mono ?_
        rintro e' W4 ⟨b1, m1_4, rfl, hB3⟩
        have h4 := h3.on hB3
        refine hK.out _ _ ?_ (fun hHeld => ?_)
        focus ((try dsimp only); exact ⟨h4.cell (.tail _ (.tail _ (.head _))) 1, h4.cell (.tail _ (.head _)) 1⟩; done)
        clear hK K
        (try simp only [Act.put, List.getElem_toArray, List.getElem_cons_zero, List.getElem_cons_succ, List.setIfInBounds_toArray, List.set_cons_zero, List.set_cons_succ])
        refine wpAnyH_ready (rs := [5, 7]) (by decide +kernel) (by simp) ?_
        refine AllReadyH.cons rfl (fun K hK => ?_) (AllReadyH.cons rfl (fun K hK => ?_) AllReadyH.nil)
        · (try simp only [List.getElem_toArray, List.getElem_cons_zero, List.getElem_cons_succ])
          go_simp
          go_at_call 60
          refine (HF2.out _ h4.1).mono ?_
          rintro e' W5 ⟨b2, m2_5, rfl, hB4⟩
          have h5 := h4.on hB4
          have m1_5 := m1_4.on hB4
          refine hK.out _ _ ?_ (fun hHeld => ?_)
          focus ((try dsimp only); exact ⟨h5.cell (.tail _ (.tail _ (.head _))) 1, h5.cell (.tail _ (.head _)) 1⟩; done)
          clear hK K
          (try simp only [Act.put, List.getElem_toArray, List.getElem_cons_zero, List.getElem_cons_succ, List.setIfInBounds_toArray, List.set_cons_zero, List.set_cons_succ])
          refine wpAnyH_ready (rs := [7]) (by decide +kernel) (by simp) ?_
          refine AllReadyH.cons rfl (fun K hK => ?_) AllReadyH.nil
          have h6 := h5.new #[.map none] 97
          have m1_6 := m1_5.on ((Below.refl _ W5).alloc (Nat.le_refl _) (Obj.cells #[.map none] 97 (0, 0)))
          have m2_6 := m2_5.on ((Below.refl _ W5).alloc (Nat.le_refl _) (Obj.cells #[.map none] 97 (0, 0)))
          (try simp only [List.getElem_toArray, List.getElem_cons_zero, List.getElem_cons_succ])
          go_simp
          refine hK.out _ _ ?_ (fun hHeld => ?_)
          focus ((try dsimp only); exact ⟨h6.cell (.tail _ (.tail _ (.tail _ (.head _)))) 1, h6.cell (.tail _ (.tail _ (.head _))) 1⟩; done)
          clear hK K
          (try simp only [Act.put, List.getElem_toArray, List.getElem_cons_zero, List.getElem_cons_succ, List.setIfInBounds_toArray, List.set_cons_zero, List.set_cons_succ])
          generalize (World.alloc _ _) = W6 at h6 m1_6 m2_6 hHeld ⊢
          generalize W5.heap.size = g6 at h6 ⊢
          have c5 := h6.cell (.tail _ (.head _)) 0
          have f5 := h6.frozen (.tail _ (.head _)) 0
          simp only [List.getElem?_toArray, List.getElem?_cons_zero] at c5
          have hA := h6.swap 0 (.map (some b1))
          have mA1 := m1_6.set (h6.2.1 _ (.tail _ (.head _))).1 (.map (some b1))
          have mA2 := m2_6.set (h6.2.1 _ (.tail _ (.head _))).1 (.map (some b1))
          refine wpAnyH_ready (rs := [8]) (by decide +kernel) (by simp) ?_
          refine AllReadyH.cons rfl (fun K hK => ?_) AllReadyH.nil
          (try simp only [List.getElem_toArray, List.getElem_cons_zero, List.getElem_cons_succ])
          go_simp
          refine hK.out _ _ ?_ (fun hHeld => ?_)
          focus ((try dsimp only); exact ⟨hA.cell (.tail _ (.tail _ (.tail _ (.head _)))) 1, hA.cell (.tail _ (.tail _ (.head _))) 1⟩; done)
          clear hK K
          (try simp only [Act.put, List.getElem_toArray, List.getElem_cons_zero, List.getElem_cons_succ, List.setIfInBounds_toArray, List.set_cons_zero, List.set_cons_succ])
          generalize (World.setCell _ _ _) = WA at hA mA1 mA2 hHeld ⊢
          have c6 := hA.cell (.head _) 0
          have f6 := hA.frozen (.head _) 0
          simp only [List.getElem?_toArray, List.getElem?_cons_zero] at c6
          have hC := hA.set 0 (.map (some b2))
          have mC1 := mA1.set (hA.2.1 _ (.head _)).1 (.map (some b2))
          have mC2 := mA2.set (hA.2.1 _ (.head _)).1 (.map (some b2))
          refine wpAnyH_ready (rs := [9]) (by decide +kernel) (by simp) ?_
          refine AllReadyH.cons rfl (fun K hK => ?_) AllReadyH.nil
          (try simp only [List.getElem_toArray, List.getElem_cons_zero, List.getElem_cons_succ])
          go_simp
          refine hK.out _ _ ?_ (fun hHeld => ?_)
          focus ((try dsimp only); exact ⟨hC.cell (.tail _ (.tail _ (.tail _ (.head _)))) 1, hC.cell (.tail _ (.tail _ (.head _))) 1⟩; done)
          clear hK K
          (try simp only [Act.put, List.getElem_toArray, List.getElem_cons_zero, List.getElem_cons_succ, List.setIfInBounds_toArray, List.set_cons_zero, List.set_cons_succ])
          refine wpAnyH_done (by decide +kernel) ?_ _
          go_wp2_with fail
          go_meet
          exact ⟨_, _, b1, b2, rfl, rfl, hC.1, hC.cell (.tail _ (.head _)) 0, hC.cell (.head _) 0, hC.lt (.tail _ (.head _)), hC.lt (.head _), mC1, mC2⟩
        · have h5 := h4.new #[.map none] 97
          have m1_5 := m1_4.on ((Below.refl _ W4).alloc (Nat.le_refl _) (Obj.cells #[.map none] 97 (0, 0)))
          (try simp only [List.getElem_toArray, List.getElem_cons_zero, List.getElem_cons_succ])
          go_simp
          refine hK.out _ _ ?_ (fun hHeld => ?_)
          focus ((try dsimp only); exact ⟨h5.cell (.tail _ (.tail _ (.tail _ (.head _)))) 1, h5.cell (.tail _ (.tail _ (.head _))) 1⟩; done)
          clear hK K
          (try simp only [Act.put, List.getElem_toArray, List.getElem_cons_zero, List.getElem_cons_succ, List.setIfInBounds_toArray, List.set_cons_zero, List.set_cons_succ])
          generalize (World.alloc _ _) = W5 at h5 m1_5 hHeld ⊢
          generalize W4.heap.size = g6 at h5 ⊢
          refine wpAnyH_ready (rs := [5]) (by decide +kernel) (by simp) ?_
          refine AllReadyH.cons rfl (fun K hK => ?_) AllReadyH.nil
          (try simp only [List.getElem_toArray, List.getElem_cons_zero, List.getElem_cons_succ])
          go_simp
          go_at_call 60
          refine (HF2.out _ h5.1).mono ?_
          rintro e' W6 ⟨b2, m2_6, rfl, hB5⟩
          have h6 := h5.on hB5
          have m1_6 := m1_5.on hB5
          refine hK.out _ _ ?_ (fun hHeld => ?_)
          focus ((try dsimp only); exact ⟨h6.cell (.tail _ (.tail _ (.tail _ (.head _)))) 1, h6.cell (.tail _ (.tail _ (.head _))) 1⟩; done)
          clear hK K
          (try simp only [Act.put, List.getElem_toArray, List.getElem_cons_zero, List.getElem_cons_succ, List.setIfInBounds_toArray, List.set_cons_zero, List.set_cons_succ])
          have c5 := h6.cell (.tail _ (.head _)) 0
          have f5 := h6.frozen (.tail _ (.head _)) 0
          simp only [List.getElem?_toArray, List.getElem?_cons_zero] at c5
          have hA := h6.swap 0 (.map (some b1))
          have mA1 := m1_6.set (h6.2.1 _ (.tail _ (.head _))).1 (.map (some b1))
          have mA2 := m2_6.set (h6.2.1 _ (.tail _ (.head _))).1 (.map (some b1))
          refine wpAnyH_ready (rs := [8]) (by decide +kernel) (by simp) ?_
          refine AllReadyH.cons rfl (fun K hK => ?_) AllReadyH.nil
          (try simp only [List.getElem_toArray, List.getElem_cons_zero, List.getElem_cons_succ])
          go_simp
          refine hK.out _ _ ?_ (fun hHeld => ?_)
          focus ((try dsimp only); exact ⟨hA.cell (.tail _ (.tail _ (.tail _ (.head _)))) 1, hA.cell (.tail _ (.tail _ (.head _))) 1⟩; done)
          clear hK K
          (try simp only [Act.put, List.getElem_toArray, List.getElem_cons_zero, List.getElem_cons_succ, List.setIfInBounds_toArray, List.set_cons_zero, List.set_cons_succ])
          generalize (World.setCell _ _ _) = WA at hA mA1 mA2 hHeld ⊢
          have c6 := hA.cell (.head _) 0
          have f6 := hA.frozen (.head _) 0
          simp only [List.getElem?_toArray, List.getElem?_cons_zero] at c6
          have hC := hA.set 0 (.map (some b2))
          have mC1 := mA1.set (hA.2.1 _ (.head _)).1 (.map (some b2))
          have mC2 := mA2.set (hA.2.1 _ (.head _)).1 (.map (some b2))
          refine wpAnyH_ready (rs := [9]) (by decide +kernel) (by simp) ?_
          refine AllReadyH.cons rfl (fun K hK => ?_) AllReadyH.nil
          (try simp only [List.getElem_toArray, List.getElem_cons_zero, List.getElem_cons_succ])
          go_simp
          refine hK.out _ _ ?_ (fun hHeld => ?_)
          focus ((try dsimp only); exact ⟨hC.cell (.tail _ (.tail _ (.tail _ (.head _)))) 1, hC.cell (.tail _ (.tail _ (.head _))) 1⟩; done)
          clear hK K
          (try simp only [Act.put, List.getElem_toArray, List.getElem_cons_zero, List.getElem_cons_succ, List.setIfInBounds_toArray, List.set_cons_zero, List.set_cons_succ])
          refine wpAnyH_done (by decide +kernel) ?_ _
          go_wp2_with fail
          go_meet
          exact ⟨_, _, b1, b2, rfl, rfl, hC.1, hC.cell (.tail _ (.head _)) 0, hC.cell (.head _) 0, hC.lt (.tail _ (.head _)), hC.lt (.head _), mC1, mC2⟩
      · have h4 := h3.new #[.map none] 97
        (try simp only [List.getElem_toArray, List.getElem_cons_zero, List.getElem_cons_succ])
        go_simp
        refine hK.out _ _ ?_ (fun hHeld => ?_)
        focus ((try dsimp only); exact ⟨h4.cell (.tail _ (.tail _ (.tail _ (.head _)))) 1, h4.cell (.tail _ (.tail _ (.head _))) 1⟩; done)
        clear hK K
        (try simp only [Act.put, List.getElem_toArray, List.getElem_cons_zero, List.getElem_cons_succ, List.setIfInBounds_toArray, List.set_cons_zero, List.set_cons_succ])
        generalize (World.alloc _ _) = W4 at h4  hHeld ⊢
        generalize W3.heap.size = g6 at h4 ⊢
        refine wpAnyH_ready (rs := [2]) (by decide +kernel) (by simp) ?_
        refine AllReadyH.cons rfl (fun K hK => ?_) AllReadyH.nil
        (try simp only [List.getElem_toArray, List.getElem_cons_zero, List.getElem_cons_succ])
        go_simp
        go_at_call 60
        refine (HF1.out _ h4.1).mono ?_
        rintro e' W5 ⟨b1, m1_5, rfl, hB4⟩
        have h5 := h4.on hB4
        refine hK.out _ _ ?_ (fun hHeld => ?_)
        focus ((try dsimp only); exact ⟨h5.cell (.tail _ (.tail _ (.tail _ (.head _)))) 1, h5.cell (.tail _ (.tail _ (.head _))) 1⟩; done)
        clear hK K
        (try simp only [Act.put, List.getElem_toArray, List.getElem_cons_zero, List.getElem_cons_succ, List.setIfInBounds_toArray, List.set_cons_zero, List.set_cons_succ])
        refine wpAnyH_ready (rs := [5]) (by decide +kernel) (by simp) ?_
        refine AllReadyH.cons rfl (fun K hK => ?_) AllReadyH.nil
        (try simp only [List.getElem_toArray, List.getElem_cons_zero, List.getElem_cons_succ])
        go_simp
        go_at_call 60
        refine (HF2.out _ h5.1).mono ?_
        rintro e' W6 ⟨b2, m2_6, rfl, hB5⟩
        have h6 := h5.on hB5
        have m1_6 := m1_5.on hB5
        refine hK.out _ _ ?_ (fun hHeld => ?_)
        focus ((try dsimp only); exact ⟨h6.cell (.tail _ (.tail _ (.tail _ (.head _)))) 1, h6.cell (.tail _ (.tail _ (.head _))) 1⟩; done)
        clear hK K
        (try simp only [Act.put, List.getElem_toArray, List.getElem_cons_zero, List.getElem_cons_succ, List.setIfInBounds_toArray, List.set_cons_zero, List.set_cons_succ])
        have c5 := h6.cell (.tail _ (.head _)) 0
        have f5 := h6.frozen (.tail _ (.head _)) 0
        simp only [List.getElem?_toArray, List.getElem?_cons_zero] at c5
        have hA := h6.swap 0 (.map (some b1))
        have mA1 := m1_6.set (h6.2.1 _ (.tail _ (.head _))).1 (.map (some b1))
        have mA2 := m2_6.set (h6.2.1 _ (.tail _ (.head _))).1 (.map (some b1))
        refine wpAnyH_ready (rs := [8]) (by decide +kernel) (by simp) ?_
        refine AllReadyH.cons rfl (fun K hK => ?_) AllReadyH.nil
        (try simp only [List.getElem_toArray, List.getElem_cons_zero, List.getElem_cons_succ])
        go_simp
        refine hK.out _ _ ?_ (fun hHeld => ?_)
        focus ((try dsimp only); exact ⟨hA.cell (.tail _ (.tail _ (.tail _ (.head _)))) 1, hA.cell (.tail _ (.tail _ (.head _))) 1⟩; done)
        clear hK K
        (try simp only [Act.put, List.getElem_toArray, List.getElem_cons_zero, List.getElem_cons_succ, List.setIfInBounds_toArray, List.set_cons_zero, List.set_cons_succ])
        generalize (World.setCell _ _ _) = WA at hA mA1 mA2 hHeld ⊢
        have c6 := hA.cell (.head _) 0
        have f6 := hA.frozen (.head _) 0
        simp only [List.getElem?_toArray, List.getElem?_cons_zero] at c6
        have hC := hA.set 0 (.map (some b2))
        have mC1 := mA1.set (hA.2.1 _ (.head _)).1 (.map (some b2))
        have mC2 := mA2.set (hA.2.1 _ (.head _)).1 (.map (some b2))
        refine wpAnyH_ready (rs := [9]) (by decide +kernel) (by simp) ?_
        refine AllReadyH.cons rfl (fun K hK => ?_) AllReadyH.nil
        (try simp only [List.getElem_toArray, List.getElem_cons_zero, List.getElem_cons_succ])
        go_simp
        refine hK.out _ _ ?_ (fun hHeld => ?_)
        focus ((try dsimp only); exact ⟨hC.cell (.tail _ (.tail _ (.tail _ (.head _)))) 1, hC.cell (.tail _ (.tail _ (.head _))) 1⟩; done)
        clear hK K
        (try simp only [Act.put, List.getElem_toArray, List.getElem_cons_zero, List.getElem_cons_succ, List.setIfInBounds_toArray, List.set_cons_zero, List.set_cons_succ])
        refine wpAnyH_done (by decide +kernel) ?_ _
        go_wp2_with fail
        go_meet
        exact ⟨_, _, b1, b2, rfl, rfl, hC.1, hC.cell (.tail _ (.head _)) 0, hC.cell (.head _) 0, hC.lt (.tail _ (.head _)), hC.lt (.head _), mC1, mC2⟩
    · have h3 := h2.new #[.map none] 97
      (try simp only [List.getElem_toArray, List.getElem_cons_zero, List.getElem_cons_succ])
      go_simp
      refine hK.out _ _ ?_ (fun hHeld => ?_)
      focus ((try dsimp only); exact ⟨h3.cell (.tail _ (.tail _ (.head _))) 1, h3.cell (.tail _ (.head _)) 1⟩; done)
      clear hK K
      (try simp only [Act.put, List.getElem_toArray, List.getElem_cons_zero, List.getElem_cons_succ, List.setIfInBounds_toArray, List.set_cons_zero, List.set_cons_succ])
      generalize (World.alloc _ _) = W3 at h3  hHeld ⊢
      generalize W2.heap.size = g6 at h3 ⊢
      refine wpAnyH_ready (rs := [2, 6]) (by decide +kernel) (by simp) ?_
      refine AllReadyH.cons rfl (fun K hK => ?_) (AllReadyH.cons rfl (fun K hK => ?_) AllReadyH.nil)
      · (try simp only [List.getElem_toArray, List.getElem_cons_zero, List.getElem_cons_succ])
        go_simp
        go_at_call 60
        refine (HF1.out _ h3.1).mono ?_
        rintro e' W4 ⟨b1, m1_4, rfl, hB3⟩
        have h4 := h3.on hB3
        refine hK.out _ _ ?_ (fun hHeld => ?_)
        focus ((try dsimp only); exact ⟨h4.cell (.tail _ (.tail _ (.head _))) 1, h4.cell (.tail _ (.head _)) 1⟩; done)
        clear hK K
        (try simp only [Act.put, List.getElem_toArray, List.getElem_cons_zero, List.getElem_cons_succ, List.setIfInBounds_toArray, List.set_cons_zero, List.set_cons_succ])
        refine wpAnyH_ready (rs := [5, 6]) (by decide +kernel) (by simp) ?_
        refine AllReadyH.cons rfl (fun K hK => ?_) (AllReadyH.cons rfl (fun K hK => ?_) AllReadyH.nil)
        · (try simp only [List.getElem_toArray, List.getElem_cons_zero, List.getElem_cons_succ])
          go_simp
          go_at_call 60
          refine (HF2.out _ h4.1).mono ?_
          rintro e' W5 ⟨b2, m2_5, rfl, hB4⟩
          have h5 := h4.on hB4
          have m1_5 := m1_4.on hB4
          refine hK.out _ _ ?_ (fun hHeld => ?_)
          focus ((try dsimp only); exact ⟨h5.cell (.tail _ (.tail _ (.head _))) 1, h5.cell (.tail _ (.head _)) 1⟩; done)
          clear hK K
          (try simp only [Act.put, List.getElem_toArray, List.getElem_cons_zero, List.getElem_cons_succ, List.setIfInBounds_toArray, List.set_cons_zero, List.set_cons_succ])
          refine wpAnyH_ready (rs := [6]) (by decide +kernel) (by simp) ?_
          refine AllReadyH.cons rfl (fun K hK => ?_) AllReadyH.nil
          have h6 := h5.new #[.map none] 97
          have m1_6 := m1_5.on ((Below.refl _ W5).alloc (Nat.le_refl _) (Obj.cells #[.map none] 97 (0, 0)))
          have m2_6 := m2_5.on ((Below.refl _ W5).alloc (Nat.le_refl _) (Obj.cells #[.map none] 97 (0, 0)))
          (try simp only [List.getElem_toArray, List.getElem_cons_zero, List.getElem_cons_succ])
          go_simp
          refine hK.out _ _ ?_ (fun hHeld => ?_)
          focus ((try dsimp only); exact ⟨h6.cell (.tail _ (.tail _ (.tail _ (.head _)))) 1, h6.cell (.tail _ (.tail _ (.head _))) 1⟩; done)
          clear hK K
          (try simp only [Act.put, List.getElem_toArray, List.getElem_cons_zero, List.getElem_cons_succ, List.setIfInBounds_toArray, List.set_cons_zero, List.set_cons_succ])
          generalize (World.alloc _ _) = W6 at h6 m1_6 m2_6 hHeld ⊢
          generalize W5.heap.size = g5 at h6 ⊢
          have c5 := h6.cell (.head _) 0
          have f5 := h6.frozen (.head _) 0
          simp only [List.getElem?_toArray, List.getElem?_cons_zero] at c5
          have hA := h6.set 0 (.map (some b1))
          have mA1 := m1_6.set (h6.2.1 _ (.head _)).1 (.map (some b1))
          have mA2 := m2_6.set (h6.2.1 _ (.head _)).1 (.map (some b1))
          refine wpAnyH_ready (rs := [8]) (by decide +kernel) (by simp) ?_
          refine AllReadyH.cons rfl (fun K hK => ?_) AllReadyH.nil
          (try simp only [List.getElem_toArray, List.getElem_cons_zero, List.getElem_cons_succ])
          go_simp
          refine hK.out _ _ ?_ (fun hHeld => ?_)
          focus ((try dsimp only); exact ⟨hA.cell (.tail _ (.tail _ (.tail _ (.head _)))) 1, hA.cell (.tail _ (.tail _ (.head _))) 1⟩; done)
          clear hK K
          (try simp only [Act.put, List.getElem_toArray, List.getElem_cons_zero, List.getElem_cons_succ, List.setIfInBounds_toArray, List.set_cons_zero, List.set_cons_succ])
          generalize (World.setCell _ _ _) = WA at hA mA1 mA2 hHeld ⊢
          have c6 := hA.cell (.tail _ (.head _)) 0
          have f6 := hA.frozen (.tail _ (.head _)) 0
          simp only [List.getElem?_toArray, List.getElem?_cons_zero] at c6
          have hC := hA.swap 0 (.map (some b2))
          have mC1 := mA1.set (hA.2.1 _ (.tail _ (.head _))).1 (.map (some b2))
          have mC2 := mA2.set (hA.2.1 _ (.tail _ (.head _))).1 (.map (some b2))
          refine wpAnyH_ready (rs := [9]) (by decide +kernel) (by simp) ?_
          refine AllReadyH.cons rfl (fun K hK => ?_) AllReadyH.nil
          (try simp only [List.getElem_toArray, List.getElem_cons_zero, List.getElem_cons_succ])
          go_simp
          refine hK.out _ _ ?_ (fun hHeld => ?_)
          focus ((try dsimp only); exact ⟨hC.cell (.tail _ (.tail _ (.tail _ (.head _)))) 1, hC.cell (.tail _ (.tail _ (.head _))) 1⟩; done)
          clear hK K
          (try simp only [Act.put, List.getElem_toArray, List.getElem_cons_zero, List.getElem_cons_succ, List.setIfInBounds_toArray, List.set_cons_zero, List.set_cons_succ])
          refine wpAnyH_done (by decide +kernel) ?_ _
          go_wp2_with fail
          go_meet
          exact ⟨_, _, b1, b2, rfl, rfl, hC.1, hC.cell (.head _) 0, hC.cell (.tail _ (.head _)) 0, hC.lt (.head _), hC.lt (.tail _ (.head _)), mC1, mC2⟩
        · have h5 := h4.new #[.map none] 97
          have m1_5 := m1_4.on ((Below.refl _ W4).alloc (Nat.le_refl _) (Obj.cells #[.map none] 97 (0, 0)))
          (try simp only [List.getElem_toArray, List.getElem_cons_zero, List.getElem_cons_succ])
          go_simp
          refine hK.out _ _ ?_ (fun hHeld => ?_)
          focus ((try dsimp only); exact ⟨h5.cell (.tail _ (.tail _ (.tail _ (.head _)))) 1, h5.cell (.tail _ (.tail _ (.head _))) 1⟩; done)
          clear hK K
          (try simp only [Act.put, List.getElem_toArray, List.getElem_cons_zero, List.getElem_cons_succ, List.setIfInBounds_toArray, List.set_cons_zero, List.set_cons_succ])
          generalize (World.alloc _ _) = W5 at h5 m1_5 hHeld ⊢
          generalize W4.heap.size = g5 at h5 ⊢
          refine wpAnyH_ready (rs := [5]) (by decide +kernel) (by simp) ?_
          refine AllReadyH.cons rfl (fun K hK => ?_) AllReadyH.nil
          (try simp only [List.getElem_toArray, List.getElem_cons_zero, List.getElem_cons_succ])
          go_simp
          go_at_call 60
          refine (HF2.out _ h5.1).mono ?_
          rintro e' W6 ⟨b2, m2_6, rfl, hB5⟩
          have h6 := h5.on hB5
          have m1_6 := m1_5.on hB5
          refine hK.out _ _ ?_ (fun hHeld => ?_)
          focus ((try dsimp only); exact ⟨h6.cell (.tail _ (.tail _ (.tail _ (.head _)))) 1, h6.cell (.tail _ (.tail _ (.head _))) 1⟩; done)
          clear hK K
          (try simp only [Act.put, List.getElem_toArray, List.getElem_cons_zero, List.getElem_cons_succ, List.setIfInBounds_toArray, List.set_cons_zero, List.set_cons_succ])
          have c5 := h6.cell (.head _) 0
          have f5 := h6.frozen (.head _) 0
          simp only [List.getElem?_toArray, List.getElem?_cons_zero] at c5
          have hA := h6.set 0 (.map (some b1))
          have mA1 := m1_6.set (h6.2.1 _ (.head _)).1 (.map (some b1))
          have mA2 := m2_6.set (h6.2.1 _ (.head _)).1 (.map (some b1))
          refine wpAnyH_ready (rs := [8]) (by decide +kernel) (by simp) ?_
          refine AllReadyH.cons rfl (fun K hK => ?_) AllReadyH.nil
          (try simp only [List.getElem_toArray, List.getElem_cons_zero, List.getElem_cons_succ])
          go_simp
          refine hK.out _ _ ?_ (fun hHeld => ?_)
          focus ((try dsimp only); exact ⟨hA.cell (.tail _ (.tail _ (.tail _ (.head _)))) 1, hA.cell (.tail _ (.tail _ (.head _))) 1⟩; done)
          clear hK K
          (try simp only [Act.put, List.getElem_toArray, List.getElem_cons_zero, List.getElem_cons_succ, List.setIfInBounds_toArray, List.set_cons_zero, List.set_cons_succ])
          generalize (World.setCell _ _ _) = WA at hA mA1 mA2 hHeld ⊢
          have c6 := hA.cell (.tail _ (.head _)) 0
          have f6 := hA.frozen (.tail _ (.head _)) 0
          simp only [List.getElem?_toArray, List.getElem?_cons_zero] at c6
          have hC := hA.swap 0 (.map (some b2))
          have mC1 := mA1.set (hA.2.1 _ (.tail _ (.head _))).1 (.map (some b2))
          have mC2 := mA2.set (hA.2.1 _ (.tail _ (.head _))).1 (.map (some b2))
          refine wpAnyH_ready (rs := [9]) (by decide +kernel) (by simp) ?_
          refine AllReadyH.cons rfl (fun K hK => ?_) AllReadyH.nil
          (try simp only [List.getElem_toArray, List.getElem_cons_zero, List.getElem_cons_succ])
          go_simp
          refine hK.out _ _ ?_ (fun hHeld => ?_)
          focus ((try dsimp only); exact ⟨hC.cell (.tail _ (.tail _ (.tail _ (.head _)))) 1, hC.cell (.tail _ (.tail _ (.head _))) 1⟩; done)
          clear hK K
          (try simp only [Act.put, List.getElem_toArray, List.getElem_cons_zero, List.getElem_cons_succ, List.setIfInBounds_toArray, List.set_cons_zero, List.set_cons_succ])
          refine wpAnyH_done (by decide +kernel) ?_ _
          go_wp2_with fail
          go_meet
          exact ⟨_, _, b1, b2, rfl, rfl, hC.1, hC.cell (.head _) 0, hC.cell (.tail _ (.head _)) 0, hC.lt (.head _), hC.lt (.tail _ (.head _)), mC1, mC2⟩
      · have h4 := h3.new #[.map none] 97
        (try simp only [List.getElem_toArray, List.getElem_cons_zero, List.getElem_cons_succ])
        go_simp
        refine hK.out _ _ ?_ (fun hHeld => ?_)
        focus ((try dsimp only); exact ⟨h4.cell (.tail _ (.tail _ (.tail _ (.head _)))) 1, h4.cell (.tail _ (.tail _ (.head _))) 1⟩; done)
        clear hK K
        (try simp only [Act.put, List.getElem_toArray, List.getElem_cons_zero, List.getElem_cons_succ, List.setIfInBounds_toArray, List.set_cons_zero, List.set_cons_succ])
        generalize (World.alloc _ _) = W4 at h4  hHeld ⊢
        generalize W3.heap.size = g5 at h4 ⊢
        refine wpAnyH_ready (rs := [2]) (by decide +kernel) (by simp) ?_
        refine AllReadyH.cons rfl (fun K hK => ?_) AllReadyH.nil
        (try simp only [List.getElem_toArray, List.getElem_cons_zero, List.getElem_cons_succ])
        go_simp
        go_at_call 60
        refine (HF1.out _ h4.1).mono ?_
        rintro e' W5 ⟨b1, m1_5, rfl, hB4⟩
        have h5 := h4.on hB4
        refine hK.out _ _ ?_ (fun hHeld => ?_)
        focus ((try dsimp only); exact ⟨h5.cell (.tail _ (.tail _ (.tail _ (.head _)))) 1, h5.cell (.tail _ (.tail _ (.head _))) 1⟩; done)
        clear hK K
        (try simp only [Act.put, List.getElem_toArray, List.getElem_cons_zero, List.getElem_cons_succ, List.setIfInBounds_toArray, List.set_cons_zero, List.set_cons_succ])
        refine wpAnyH_ready (rs := [5]) (by decide +kernel) (by simp) ?_
        refine AllReadyH.cons rfl (fun K hK => ?_) AllReadyH.nil
        (try simp only [List.getElem_toArray, List.getElem_cons_zero, List.getElem_cons_succ])
        go_simp
        go_at_call 60
        refine (HF2.out _ h5.1).mono ?_
        rintro e' W6 ⟨b2, m2_6, rfl, hB5⟩
        have h6 := h5.on hB5
        have m1_6 := m1_5.on hB5
        refine hK.out _ _ ?_ (fun hHeld => ?_)
        focus ((try dsimp only); exact ⟨h6.cell (.tail _ (.tail _ (.tail _ (.head _)))) 1, h6.cell (.tail _ (.tail _ (.head _))) 1⟩; done)
        clear hK K
        (try simp only [Act.put, List.getElem_toArray, List.getElem_cons_zero, List.getElem_cons_succ, List.setIfInBounds_toArray, List.set_cons_zero, List.set_cons_succ])
        have c5 := h6.cell (.head _) 0
        have f5 := h6.frozen (.head _) 0
        simp only [List.getElem?_toArray, List.getElem?_cons_zero] at c5
        have hA := h6.set 0 (.map (some b1))
        have mA1 := m1_6.set (h6.2.1 _ (.head _)).1 (.map (some b1))
        have mA2 := m2_6.set (h6.2.1 _ (.head _)).1 (.map (some b1))
        refine wpAnyH_ready (rs := [8]) (by decide +kernel) (by simp) ?_
        refine AllReadyH.cons rfl (fun K hK => ?_) AllReadyH.nil
        (try simp only [List.getElem_toArray, List.getElem_cons_zero, List.getElem_cons_succ])
        go_simp
        refine hK.out _ _ ?_ (fun hHeld => ?_)
        focus ((try dsimp only); exact ⟨hA.cell (.tail _ (.tail _ (.tail _ (.head _)))) 1, hA.cell (.tail _ (.tail _ (.head _))) 1⟩; done)
        clear hK K
        (try simp only [Act.put, List.getElem_toArray, List.getElem_cons_zero, List.getElem_cons_succ, List.setIfInBounds_toArray, List.set_cons_zero, List.set_cons_succ])
        generalize (World.setCell _ _ _) = WA at hA mA1 mA2 hHeld ⊢
        have c6 := hA.cell (.tail _ (.head _)) 0
        have f6 := hA.frozen (.tail _ (.head _)) 0
        simp only [List.getElem?_toArray, List.getElem?_cons_zero] at c6
        have hC := hA.swap 0 (.map (some b2))
        have mC1 := mA1.set (hA.2.1 _ (.tail _ (.head _))).1 (.map (some b2))
        have mC2 := mA2.set (hA.2.1 _ (.tail _ (.head _))).1 (.map (some b2))
        refine wpAnyH_ready (rs := [9]) (by decide +kernel) (by simp) ?_
        refine AllReadyH.cons rfl (fun K hK => ?_) AllReadyH.nil
        (try simp only [List.getElem_toArray, List.getElem_cons_zero, List.getElem_cons_succ])
        go_simp
        refine hK.out _ _ ?_ (fun hHeld => ?_)
        focus ((try dsimp only); exact ⟨hC.cell (.tail _ (.tail _ (.tail _ (.head _)))) 1, hC.cell (.tail _ (.tail _ (.head _))) 1⟩; done)
        clear hK K
        (try simp only [Act.put, List.getElem_toArray, List.getElem_cons_zero, List.getElem_cons_succ, List.setIfInBounds_toArray, List.set_cons_zero, List.set_cons_succ])
        refine wpAnyH_done (by decide +kernel) ?_ _
        go_wp2_with fail
        go_meet
        exact ⟨_, _, b1, b2, rfl, rfl, hC.1, hC.cell (.head _) 0, hC.cell (.tail _ (.head _)) 0, hC.lt (.head _), hC.lt (.tail _ (.head _)), mC1, mC2⟩
  case rest =>
    obtain ⟨g5, g6, b1, b2, rfl, rfl, HB, c5, c6, l5, l6, hm1, hm2⟩ := hcut
    obtain ⟨L1, n1, e1, s1⟩ := hm1
    obtain ⟨L2, n2, e2, s2⟩ := hm2
    have HCL := Lib.hid (cloneP_any b1 L1 wc n1)
    have HN1 := Lib.hid n1
    have HN2 := Lib.hid n2
    have HE1 := Lib.hid e1
    have HE2 := Lib.hid e2
    have HS1 := Lib.hid s1
    have HS2 := Lib.hid s2
    have HC5 := Lib.hid c5
    have HC6 := Lib.hid c6
    have HL5 := Lib.hid l5
    have HL6 := Lib.hid l6
    have HBW := Lib.hid HB
    have HLB := Lib.hid n2.lt
    clear n1 n2 e1 e2 s1 s2 c6 l5 l6 HB HQ
    go_upto_region 3 with (go_at_call 61; go_must (refine HCL.out.mono ?_; rintro e' W3 ⟨rfl, hm3, hg3⟩; have HM3 := Lib.hid hm3; have HG3 := Lib.hid hg3; clear hm3 hg3))
    clear c5 HCL
    have c6 := (cell_kept HC6.out HG3.out (fun r e => by cases e))
    have HN3 := Lib.hid (HN2.out.kept HG3.out (by simp))
    have HCP := Lib.hid (copyP_any wc.heap.size b2 L1 L2 (fstV l) W3 HM3.out HE1.out HN3.out (by have := HLB.out; omega))
    go_upto_region 4 with (go_at_call 62; go_must (refine HCP.out.mono ?_; rintro e' W4 ⟨rfl, L', hm4, hk4, hl4, hg4⟩; have HM4 := Lib.hid hm4; have HK4 := Lib.hid hk4; have HL4 := Lib.hid hl4; have HG4 := Lib.hid hg4; clear hm4 hk4 hl4 hg4))
    clear c6 HCP
    have HB4 : Hid (Below wc.heap.size wc W4) := ((Below.refl wc.heap.size wc).grown HG3.out (Nat.le_refl _) (fun k e => by cases e)).grown HG4.out HG3.out.size (fun k e => by cases e; exact Nat.le_refl _)
    have HM5 := Lib.hid (HM4.out.alloc (Obj.cells #[.map (some wc.heap.size)] 97))
    have HC7 : Hid ((W4.alloc (Obj.cells #[.map (some wc.heap.size)] 97)).cell? ⟨W4.heap.size, 0, none⟩ = some (.map (some wc.heap.size))) := blk_cell (heap_alloc_new _ _) 0
    have HB5 : Hid (Below wc.heap.size wc (W4.alloc (Obj.cells #[.map (some wc.heap.size)] 97))) := HB4.out.alloc HB4.out.size _
    have HLT : Hid (W4.heap.size < (W4.alloc (Obj.cells #[.map (some wc.heap.size)] 97)).heap.size) := by unfold Hid; simp
    have HKY := Lib.hid (keysI_any (some wc.heap.size) W4)
    obtain ⟨W5, hW5⟩ : ∃ W5, W4.alloc (Obj.cells #[.map (some wc.heap.size)] 97) = W5 := ⟨_, rfl⟩
    rw [hW5] at HM5 HC7 HB5 HLT HKY
    have HSO := Lib.hid (sortedZ_any W4.heap.size wc.heap.size L' (by have := HL4.out; have := HS1.out; have := HS2.out; omega) W5 HLT.out HC7.out HM5.out)
    have HD : Hid (∀ W', Below W5.heap.size W5 W' → ∀ id, In64 id → Calls Tryz.prog 66 #[.int .i64 id, .pointer (some ⟨g5, 0, none⟩), .pointer (some ⟨g6, 0, none⟩)] W' fun e W'' => ∃ b, e = .returned (.bool b) ∧ (b = true ↔ AlikeB (fstV l) (fstV l') id) ∧ Below W'.heap.size W' W'') := fun W' hb id hid => by
      have hbc : Below wc.heap.size wc W' := HB5.out.trans (hb.mono HB5.out.size)
      have hbw : Below w.heap.size w W' := HBW.out.trans (hbc.mono HBW.out.size)
      refine del_any (fstV l) (fstV l') b1 b2 g5 g6 id hid W' ⟨L1, HN1.out.on hbc HN1.out.lt, HE1.out, fun i x hx => ?_⟩ ⟨L2, HN2.out.on hbc HN2.out.lt, HE2.out, fun i x hx => ?_⟩ ((hbc.cell (p := ⟨g5, 0, none⟩) HL5.out).trans HC5.out) ((hbc.cell (p := ⟨g6, 0, none⟩) HL6.out).trans HC6.out) (Nat.lt_of_lt_of_le HL5.out hbc.size) (Nat.lt_of_lt_of_le HL6.out hbc.size)
      · have hm := List.mem_of_find?_eq_some hx
        exact ⟨((HP1.out W' hbw).2 x hm).1, (HI1.out x hm).2⟩
      · have hm := List.mem_of_find?_eq_some hx
        exact ⟨((HP2.out W' hbw).2 x hm).1, (HI2.out x hm).2⟩
    have HOK : Hid (∀ z ∈ L'.map Prod.fst, In64 z) := fun z hz => by
      obtain ⟨es, c, _, _, _, hok⟩ := HM5.out
      obtain ⟨q, hq, e⟩ := List.mem_map.1 hz
      rw [← e]; exact hok q hq
    obtain ⟨p, HPP⟩ : ∃ p : Int → Bool, Hid (∀ z, p z = true ↔ AlikeB (fstV l) (fstV l') z) := by
      haveI := fun z => Classical.propDecidable (AlikeB (fstV l) (fstV l') z)
      exact ⟨fun z => decide (AlikeB (fstV l) (fstV l') z), fun z => decide_eq_true_iff⟩
    have HSAY := Lib.hid (fun zs hp n => left_says (zs := zs) HE1.out HE2.out HK4.out hp HPP.out n)
    have HDN := Lib.hid (fun W => delZ_nil (.pointer (some ⟨g5, 0, none⟩)) (.pointer (some ⟨g6, 0, none⟩)) W)
    have HDZ := Lib.hid (fun W zs g cap hz hin hn hc => delZ_any p _ HPP.out W5 W (.pointer (some ⟨g5, 0, none⟩)) (.pointer (some ⟨g6, 0, none⟩)) zs g 0 cap hz hin hn hc HD.out)
    have HBT : Hid (∀ W, Below W5.heap.size W5 W → Below w.heap.size w W) := fun W hb => HBW.out.trans ((HB5.out.trans (hb.mono HB5.out.size)).mono HBW.out.size)
    go_wp2_with (first
      | (go_at_call 65; go_must (refine HKY.out.mono ?_; rintro e' w' ⟨rfl, rfl⟩))
      | (go_at_call 64; go_must (refine HSO.out.mono ?_; rintro e' W6 ⟨zs, hz1, hz2, hz3⟩; have HZ1 := Lib.hid hz1; have HZ2 := Lib.hid hz2; clear hz1 hz2; rcases hz3 with ⟨hz0, rfl, hz4⟩ | ⟨g, cap, rfl, hz4, hz5, hz6⟩))
      | (go_at_call 63; go_must (first
          | (with_reducible refine (HDN.out _).mono ?_; rintro e' W7 ⟨rfl, rfl⟩)
          | (with_reducible refine (HDZ.out _ zs g cap hz6 (fun z hz => HOK.out z (HZ1.out.mem_iff.1 hz)) hz5 hz4).mono ?_; rintro e' W7 ⟨rfl, hB7, hg7, hc7⟩))))
    · go_ret
      refine ⟨_, HZ2.out.filter _, HSAY.out zs HZ1.out, HBT.out _ hz4, none, 0, by rw [hz0]; rfl, ?_⟩
      rw [hz0]
      exact Items.nil _ _ _ _
    · go_ret
      exact ⟨_, HZ2.out.filter _, HSAY.out zs HZ1.out, HBT.out _ hB7, _, _, rfl, items_of hg7 hc7⟩
end Go.Proofs.YtbcmnhbpomjinaaGreat
