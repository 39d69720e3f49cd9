/- Layer record: bytes of the call's own, and items, in regions that draw their order: one operation at a time. -/
import Derived.Test.YtoiamjglklgcdaaGreatRMem
import Derived.Test.YtoiamjglklgcdaaGreatREdg
import Derived.Test.YtoiamjglklgcdaaGreatGRef
import Derived.Laws.BytesString
namespace Go.Proofs.YtoiamjglklgcdaaGreat
open Go.RowKit Go.Lib
section
variable {P : Program} {md : Region.Mode} {ops : Array Oper} {Q : Exit → Act → World → Prop} {S : World → Prop}
theorem rZ (i : Nat) {oi : Oper} {fuel : Nat} {listed : Array Bool} {a : Act} {w : World}
  (h : ∀ K' : Act → World → Prop, Shut (∀ a w, S w → (S w → wpAnyH P md ops Q S fuel (listed.setIfInBounds i true) a w) → K' a w) → if Region.wanted oi (yielded ops a.tmps) = true then Oper.wp P oi a w K' Q else K' (a.put oi.dst undef) w)
  (hr : Region.ready md ops listed = [i] := by decide +kernel) (ho : ops[i]? = some oi := by rfl) : wpAnyH P md ops Q S (fuel + 1) listed a w :=
 wpAnyH_ready hr (List.cons_ne_nil _ _) (AllReadyH.cons ho h AllReadyH.nil)
end
theorem sZ (n : Nat) : ∃ s, Hid (n = s) := ⟨n, Lib.hid rfl⟩
theorem nZ {m n a b : Nat} (h : m ≤ n) (h1 : Hid (m = a)) (h2 : Hid (n = b)) : Hid (a ≤ b) := Lib.hid (h1.out ▸ h2.out ▸ h)
theorem lZ {w V : World} {o : Obj} {a b : Nat} (e : w.alloc o = V) (h1 : Hid (w.heap.size = a)) (h2 : Hid (V.heap.size = b)) : Hid (a < b) := by
 have h1 := h1.out; have h2 := h2.out; rw [← e, World.size_alloc] at h2; exact Lib.hid (by omega)
theorem bZ {w V : World} {o : Obj} (e : w.alloc o = V) : Below w.heap.size w V := by rw [← e]; exact (Below.refl _ w).alloc (Nat.le_refl _) _
theorem fZ (s n m : Nat) : Hid (∀ k, (Value.slice (some ⟨s, 0, none⟩) n m).ownBlock = some k → k = s) := fun _ h => (Option.some.inj h).symm
theorem BRow.kept {w0 W W' : World} {v : Value} {l : List UInt8} {row : Option Nat} (h : BRow w0 v l W) (hg : W.grownBy W' row) (hb : Below w0.heap.size w0 W') (hne : v.ownBlock = Option.none ∨ v.ownBlock ≠ row) : BRow w0 v l W' := ⟨hb, h.2.kept hg hne⟩
theorem BRow.some {w0 W : World} {v : Value} {l : List UInt8} (h : BRow w0 v l W) (hl : 0 < l.length) : ∃ g c, v = .slice (Option.some ⟨g, 0, Option.none⟩) l.length c := by
 rcases h.2.2 with ⟨-, h0⟩ | ⟨g, cap, cur, rfl, -⟩
 ·omega
 ·exact ⟨g, cap, rfl⟩
theorem BRow.lit {w0 W : World} (hb : Below w0.heap.size w0 W) (cs : Array Value) (l : List UInt8) (hcs : cs.toList = byV l) (hm : l.length ≤ 1000000) : BRow w0 (.slice (Option.some ⟨W.heap.size, 0, Option.none⟩) l.length l.length) l (W.alloc (Obj.cells cs 5 (0, 0))) := by
 have hs : cs.size = l.length := by rw [← Array.length_toList, hcs, byV_len]
 refine ⟨hb.alloc hb.size _, by rw [byV_len, Nat.mul_one], .inr ⟨W.heap.size, l.length, cs, rfl, hb.size, heap_alloc_new W _, Nat.le_refl _, by unfold maxLen; omega, by omega, ?_⟩⟩
 rw [List.take_of_length_le (by rw [Array.length_toList, hs]; omega), hcs]
theorem BRow.bt {w0 W : World} {A : Option Addr} {n c : Nat} {l : List UInt8} (h : BRow w0 (.slice A n c) l W) : ByT W A l ∧ l.length ≤ c ∧ c ≤ maxLen ∧ (A = Option.none → c = 0) := by
 obtain ⟨A', c', e, hb, h1, h2, h3⟩ := h.byT
 obtain ⟨rfl, -, rfl⟩ := Value.slice.inj e
 exact ⟨hb, h1, h2, h3⟩
theorem ByT.grow {W W' : World} {A : Option Addr} {s : List UInt8} {q : Option Nat} (h : ByT W A s) (hg : W.grownBy W' q) (hne : ∀ g o, A = some ⟨g, o, none⟩ → q ≠ some g) : ByT W' A s := fun h0 => by
 obtain ⟨g, o, cs, fr, e, hh, hc⟩ := h h0
 exact ⟨g, o, cs, fr, e, (hg.block g (blk_lt hh) (fun e' => hne g o e e'.symm)).trans hh, hc⟩
theorem step_appI {w0 W : World} {v : Value} {l : List Itm} (HR : ItRow w0 v l W) (x : IV) (hx : ItAt W x) {g : Nat} {cs : Array Value} {t' : TypeId} (hg : W.heap[g]? = some (.cells cs t' (0, 0))) (hcs : cs.toList = encI x) (hn : l.length + 1 ≤ 1000000)
  {ops : Array Oper} {o : Oper} {a : Act} {K : Act → World → Prop} {Q : Exit → Act → World → Prop} {E : Prop} (hgd : o.guard = none) (s y : Operand)
  (ho : o.op = .call { callee := .builtin .append, args := #[s, y], argTypes := #[29, 29] })
  (hs : a.eval s = v) (c : Nat) (hy : a.eval y = .slice (some ⟨g, 0, none⟩) 1 c)
  (h : ∀ v' w', ItRow w0 v' (l ++ [x.it]) w' → KeepT 39 W w' → K (a.put o.dst v') w') :
  if Region.wanted o (yielded ops a.tmps) = true then Oper.wp Tryz.prog o a W K Q else E := by
 have hw : Region.wanted o (yielded ops a.tmps) = true := by simp [Region.wanted, hgd]
 rw [if_pos hw]
 obtain ⟨l', h1, h2, h3⟩ := HR
 obtain ⟨i0, z, hi, hz0, hz1, hz2, hz3⟩ := kindI.info
 have hl : l'.length = l.length := by rw [← h3, List.length_map]
 refine wp_append_own W s y 29 ho w0.heap.size 39 i0 z 2 48 Tryz.underlying29 hi hz0 hz1 hz2 hz3 (by decide) v l'.length (l'.flatMap encI) hs h1.2 ⟨g, 0, none⟩ 1 c (encI x) hy (by rw [kindI.len]) (fun j u hu => by rw [add_off, blk_cell hg, ← hu, ← hcs, Array.getElem?_toList]) (kindI.one x) (by unfold maxLen; omega) (by omega) h1.1.size ?_
 intro v' w' hown hgrow _
 have hk : KeepT 39 W w' := KeepT.grown h1.2 hgrow
 refine h v' w' ⟨l' ++ [x], ⟨grownB h1.1 (Nat.le_refl _) hgrow (fun k hk => (h1.2.lt k hk).1), ?_⟩, fun y hy => ?_, by rw [List.map_append, h3]; rfl⟩ hk
 ·rw [List.length_append, List.flatMap_append, List.flatMap_cons, List.flatMap_nil, List.append_nil]
  exact hown
 ·rcases List.mem_append.1 hy with hy | hy
  ·exact (h2 y hy).keep hk (by decide)
  ·rw [List.mem_singleton.1 hy]; exact hx.keep hk (by decide)
theorem app_block {x y : Option Nat} {s s' : Nat} {p : Nat → Prop} (ho : x = y ∨ x = some s) (hy : ∀ k, y = some k → p k) (hlt : ∀ k, x = some k → k < s') : ∀ k, x = some k → (p k ∨ k = s) ∧ k < s' := fun k h =>
 ⟨ho.imp (fun e => hy k (e.symm.trans h)) (fun e => Option.some.inj (h.symm.trans e)), hlt k h⟩
theorem apartO {x y : Option Nat} {p q : Nat → Prop} (hx : ∀ k, x = some k → p k) (hy : ∀ k, y = some k → q k) (h : ∀ k, p k → q k → False) : x = none ∨ x ≠ y := by
 cases hh : x with
 |none => exact .inl rfl
 |some k => exact .inr fun e => h k (hx k hh) (hy k e.symm)
end Go.Proofs.YtoiamjglklgcdaaGreat

namespace Go.Proofs.YtoiamjglklgcdaaGreat
open Go.RowKit Go.Lib

end Go.Proofs.YtoiamjglklgcdaaGreat

namespace Go.Proofs.YtoiamjglklgcdaaGreat
open Go.RowKit Go.Lib

theorem bytes_list (a : List UInt8) : (⟨a.toArray⟩ : ByteArray).toList = a := by
 rw [ByteArray.toList_eq]
def findTo (l : List Itm) (key : List UInt8) : Nat → Int
 |0 => -1
 |k + 1 => if (l.getD k ([], [])).1 = key then (k : Int) else findTo l key k
def findI (l : List Itm) (key : List UInt8) : Int := findTo l key l.length
theorem its_at {W : World} {A : Option Addr} {l : List IV} (h : ItsAt W A l) {k : Nat} (hk : k < l.length) : ∃ ad, A = some ad ∧ W.cell? (ad.add (k * 2)) = some (.slice l[k].kA l[k].key.length l[k].kc) ∧ W.cell? ⟨(ad.add (k * 2)).block, (ad.add (k * 2)).off + 1, none⟩ = some (.slice l[k].vA l[k].val.length l[k].vc) := by
 obtain ⟨ad, e, -, h0, h1⟩ := h.1.at kindI.len hk
 exact ⟨ad, e, h0 _ (by decide) rfl, h1 1 _ (by decide) (by decide) rfl⟩
theorem it_get (l : List IV) {k : Nat} (hk : k < l.length) : ((l.map IV.it).getD k ([], [])) = (l[k].key, l[k].val) := by
 rw [List.getD_eq_getElem?_getD, List.getElem?_map, List.getElem?_eq_getElem hk]; rfl
set_option maxRecDepth 100000 in
set_option maxHeartbeats 2000000 in
theorem rising_good (l : List IV) (A : Option Addr) (c : Nat) (hn : l.length ≤ 1000000) (hs : (l.map IV.it).Pairwise KeyLt) (w : World) (hl : ItsAt w A l) :
  Calls Tryz.prog 15 #[.slice A l.length c] w fun e w' => e = .returned (.bool true) ∧ Below w.heap.size w w' := by
 have HL := Lib.hid (fun W (h : Below w.heap.size w W) => hl.on h)
 have HP := Lib.hid hs
 clear hl hs
 go_enter Tryz.func15, Tryz.ntmps15
 go_wp2_with fail
 go_loopg [3] l.length (fun g i wr => ∃ k : Nat, k ≤ l.length ∧ g = l.length - k ∧ i = .int .i64 ((k : Int) + 1) ∧ Below w.heap.size w wr)
 case atStart => exact ⟨0, Nat.zero_le _, rfl, rfl, Below.refl _ _⟩
 case round =>
  obtain ⟨k, hk, hgk, rfl, HB⟩ := hrel
  have HGK := Lib.hid hgk
  have HBB := Lib.hid HB
  clear hgk
  by_cases hlt : k + 1 < l.length
  ·have b0 : (0 : Int) ≤ (k : Int) := by omega
   have b1 : (k : Int) + 1 < (l.length : Int) := by omega
   have b2 : (k : Int) < (l.length : Int) := by omega
   have b3 : (0 : Int) ≤ (k : Int) + 1 := by omega
   have hk0 : IntKind.i64.wrap ((k : Int) + 1 - 1) = (k : Int) := by rw [show (k : Int) + 1 - 1 = (k : Int) by omega]; exact IntWalk.i64_in _ (by omega)
   have hk1 : IntKind.i64.wrap ((k : Int) + 1 + 1) = (k : Int) + 1 + 1 := IntWalk.i64_in _ (by omega)
   have hkk : k < l.length := by omega
   obtain ⟨ad, hA, -, -⟩ := its_at (HL.out _ HB) hlt
   have hbl : bl l[k].key l[k + 1].key = true := by
    have := List.pairwise_iff_getElem.1 HP.out k (k + 1) (by simpa using hkk) (by simpa using hlt) (by omega)
    simpa [IV.it] using this
   subst hA
   have HS2 : Hid (∀ W, Below w.heap.size w W → W.cell? (ad.add (k * 2)) = some (.slice l[k].kA l[k].key.length l[k].kc) ∧ W.cell? (ad.add ((k + 1) * 2)) = some (.slice l[k + 1].kA l[k + 1].key.length l[k + 1].kc) ∧ (convert 37 9 (.slice l[k].kA l[k].key.length l[k].kc)).run Tryz.prog W = .ok (.string ⟨l[k].key.toArray⟩) W ∧ (convert 37 9 (.slice l[k + 1].kA l[k + 1].key.length l[k + 1].kc)).run Tryz.prog W = .ok (.string ⟨l[k + 1].key.toArray⟩) W) := fun W h => by
    obtain ⟨ad', e, h0, -⟩ := its_at (HL.out W h) hkk
    obtain rfl := Option.some.inj e
    obtain ⟨ad', e, h1, -⟩ := its_at (HL.out W h) hlt
    obtain rfl := Option.some.inj e
    exact ⟨h0, h1, conv_str ((HL.out W h).2 l[k] (List.getElem_mem hkk)).key.bytes, conv_str ((HL.out W h).2 l[k + 1] (List.getElem_mem hlt)).key.bytes⟩
   generalize l[k].kA = kA at *
   generalize l[k].kc = kc at *
   generalize l[k].key = q at *
   generalize l[k + 1].kA = kA' at *
   generalize l[k + 1].kc = kc' at *
   generalize l[k + 1].key = q' at *
   obtain ⟨s1, hs1⟩ : ∃ s : ByteArray, (⟨q.toArray⟩ : ByteArray) = s := ⟨_, rfl⟩
   obtain ⟨s2, hs2⟩ : ∃ s : ByteArray, (⟨q'.toArray⟩ : ByteArray) = s := ⟨_, rfl⟩
   have hc : Go.Op.bytesLess s1.toList s2.toList = true := by rw [← hs1, ← hs2, bytes_list, bytes_list]; exact hbl
   rw [hs1, hs2] at HS2
   obtain ⟨j, hj⟩ : ∃ j : Nat, k + 1 = j := ⟨_, rfl⟩
   have ej : (k : Int) + 1 = (j : Int) := by omega
   have HJ := Lib.hid hj
   rw [ej] at b1 b3 hk0 hk1 ⊢
   rw [hj] at HS2
   clear hs1 hs2 hbl HB ej hj hlt hkk
   go_upto_region 4 with (fail)
   refine wp_region_held_drew (S := fun W => W.cell? (ad.add (k * 2)) = some (.slice kA q.length kc) ∧ W.cell? (ad.add (j * 2)) = some (.slice kA' q'.length kc') ∧ (convert 37 9 (.slice kA q.length kc)).run Tryz.prog W = .ok (.string s1) W ∧ (convert 37 9 (.slice kA' q'.length kc')).run Tryz.prog W = .ok (.string s2) W) (by kernel_rfl) (HS2.out _ HBB.out.drew) (fun hHeld => ?_)
   refine tZ 0 ?_; refine tZ 1 ?_; refine tZ 2 ?_; refine tZ 3 ?_; refine tZ 4 ?_; refine tZ 5 ?_; refine tZ 6 ?_; refine tZ 7 ?_; refine tZ 8 ?_; refine tZ 9 ?_; refine tZ 10 ?_; refine tZ 11 ?_; refine tZ 12 ?_; refine tZ 13 ?_
   refine wpAnyH_done (by decide +kernel) ?_ _
   go_wp2
   go_roundg (l.length - j)
   case measure => have := HGK.out; have := HJ.out; omega
   case rel => exact ⟨j, by have := HJ.out; omega, rfl, rfl, HBB.out.drew⟩
  ·have b1 : ¬ (k : Int) + 1 < (l.length : Int) := by omega
   clear HB
   go_wp2
   go_ret
   exact ⟨rfl, HBB.out⟩
end Go.Proofs.YtoiamjglklgcdaaGreat
