/- Layer record: Delta, what makes one list of items of another. -/
import Derived.Test.YtoiamjglklgcdaaGreatRKeys
import Derived.Test.YtoiamjglklgcdaaGreatRSame
namespace Go.Proofs.YtoiamjglklgcdaaGreat
open Go.RowKit Go.Lib

theorem RowI.base8 {α : Type} {T' : TypeId} {n : Nat} {enc : α → List Value} {w w1 W : World} {v : Value} {l : List α} (h : RowI w1 T' n enc v l W) (hb : Below w.heap.size w w1) : RowI w T' n enc v l W :=
 ⟨Below.trans hb (h.1.mono hb.size), h.2.1, h.2.2.imp id (fun ⟨g, cap, cur, e, hg, r⟩ => ⟨g, cap, cur, e, Nat.le_trans hb.size hg, r⟩)⟩
section
variable {α β : Type} {T : TypeId} {ek : α → Value} {ev : β → Value} {Ok : α → Prop} {W : World} {b : Nat} {l : List (α × β)} {ops : Array Oper} {rest : List Oper} {o : Oper} {a : Act} {Q : Exit → Act → World → Prop}
theorem wp_look1 (hg : o.guard = none) (m x : Operand) (t : TypeId) (hop : o.op = Op.lookup t m x false) (e : TypeId) (K : KeyK T ek Ok) (ht : Tryz.prog.underlying t = some (.map T e)) {z : β} (hz : (zeroValue e).run Tryz.prog W = .ok (ev z) W) (b : Nat)
  (hm : a.eval m = .map (some b)) (h : MapIs W b ek ev Ok l) {k : α} (hk : Ok k) (hx : a.eval x = ek k)
  (hK : ∀ r, Got l z k r → wpList Tryz.prog ops Q rest (a.put o.dst (ev r.1)) W) : wpList Tryz.prog ops Q (o :: rest) a W := by
 refine wpList_plain hg fun K' hK' => ?_
 obtain ⟨r, hr, _, hrun⟩ := h.look K ht hz hk
 unfold Oper.wp
 simp [execOp, hop, hm, hx, hrun, Result.andThen]
 exact hK' _ _ (hK r hr)
end
def lastV (l : List IV) (z : List UInt8) : Option (List UInt8) := (lastOf l ⟨z.toArray⟩).map IV.val
theorem Lasts.got {w0 W : World} {b : Nat} {l : List IV} {L : List (ByteArray × IV)} (h : Lasts w0 W b l L) {s : ByteArray} {r : IV × Bool} (hr : Got L noIt s r) : (lastOf l s = none ∧ r = (noIt, false)) ∨ (∃ x, lastOf l s = some x ∧ r = (x, true)) := by
 rcases hr with ⟨h1, h2⟩ | ⟨h1, h2⟩
 ·refine .inl ⟨?_, h2⟩
  cases h3 : lastOf l s with
  |none => rfl
  |some x => exact absurd (List.mem_map_of_mem (f := Prod.fst) ((h.tell s x).2 h3)) h1
 ·exact .inr ⟨r.1, (h.tell s r.1).1 h2, Prod.ext rfl h1⟩
theorem Lasts.no {w0 W : World} {b : Nat} {l : List IV} {L : List (ByteArray × IV)} (h : Lasts w0 W b l L) {s : ByteArray} {r : IV × Bool} (hr : Got L noIt s r) (h0 : lastOf l s = none) : r = (noIt, false) := by
 rcases h.got hr with ⟨-, h2⟩ | ⟨x, h1, -⟩
 ·exact h2
 ·rw [h0] at h1; cases h1
theorem Lasts.yes {w0 W : World} {b : Nat} {l : List IV} {L : List (ByteArray × IV)} (h : Lasts w0 W b l L) {s : ByteArray} {r : IV × Bool} (hr : Got L noIt s r) {x : IV} (h0 : lastOf l s = some x) : r = (x, true) := by
 rcases h.got hr with ⟨h1, -⟩ | ⟨y, h1, h2⟩
 ·rw [h0] at h1; cases h1
 ·rw [h0] at h1; cases h1; exact h2
theorem Lasts.on {w0 W W' : World} {b : Nat} {l : List IV} {L : List (ByteArray × IV)} (h : Lasts w0 W b l L) (hb : Below W.heap.size W W') : Lasts w0 W' b l L :=
 ⟨h.map.on hb h.map.lt, h.tell, h.few, h.new, h.below.trans (hb.mono h.below.size)⟩
theorem Lasts.look1 {w0 W : World} {b : Nat} {l : List IV} {L : List (ByteArray × IV)} (h : Lasts w0 W b l L) {s : ByteArray} (hs : OkS s) {x : IV} (h0 : lastOf l s = some x) :
  (Instr.lookup 96 (.map (some b)) (.string s) false).run Tryz.prog W = .ok (.agg #[.slice x.kA x.key.length x.kc, .slice x.vA x.val.length x.vc]) W := by
 obtain ⟨r, hr, -, h2⟩ := h.map.look keyS Tryz.underlying96 (zeroIt W) hs
 obtain rfl := h.yes hr h0
 exact h2
def putD (l1 l2 : List IV) (zs : List (List UInt8)) : List Itm := zs.filterMap fun z => match lastV l2 z with
 |some v => if lastV l1 z = some v then none else some (z, v)
 |none => none
def goneL (l2 : List IV) (zs : List (List UInt8)) : List (List UInt8) := zs.filter fun z => (lastV l2 z).isNone
def StrsAt (W : World) (v : Value) (zs : List (List UInt8)) : Prop := ∃ A c, v = .slice A zs.length c ∧ ∀ k (h : k < zs.length), ∃ ad, A = some ad ∧ ∀ W', Below W.heap.size W W' → W'.cell? (ad.add k) = some (.string ⟨zs[k].toArray⟩)
set_option maxHeartbeats 1000000 in
theorem keysOf_any {w0 : World} {b : Nat} {l : List IV} {L : List (ByteArray × IV)} (hL : l.length ≤ 1000000) (w : World) (Bm : Nat) (hBm : Bm < w.heap.size) (hm : w.cell? ⟨Bm, 0, none⟩ = some (.map (some b))) (h : Lasts w0 w b l L) :
  Calls Tryz.prog 52 #[.func (.func 91) #[] #[.pointer (some ⟨Bm, 0, none⟩)]] w fun e w' => ∃ (zs : List (List UInt8)) (v : Value), e = .returned v ∧ StrsAt w' v zs ∧ zs.Pairwise (fun a b => bl a b = true) ∧ (∀ z, z ∈ zs ↔ (lastV l z).isSome = true) ∧ zs.length ≤ l.length ∧ Below w.heap.size w w' := by
 refine (sortedS_any Bm b L (by have := h.few; omega) w hBm hm h.map).mono ?_
 rintro e w' ⟨zs, hp, hs, hr⟩
 have hmem : ∀ z, z ∈ zs ↔ (lastV l z).isSome = true := fun z => by
  rw [hp.mem_iff, List.mem_map]
  unfold lastV
  rw [Option.isSome_map]
  constructor
  ·rintro ⟨⟨s, x⟩, hx, rfl⟩
   have := (h.tell s x).1 hx
   have e : (⟨(bsL s).toArray⟩ : ByteArray) = s := by cases s; simp [bsL]
   simp only
   rw [e, this]; rfl
  ·intro hz
   obtain ⟨x, hx⟩ := Option.isSome_iff_exists.1 hz
   exact ⟨(_, x), (h.tell _ x).2 hx, by simp [bsL]⟩
 have hlen : zs.length ≤ l.length := by
  have := hp.length_eq
  rw [List.length_map] at this
  have := h.few
  omega
 rcases hr with ⟨rfl, rfl, hb⟩ | ⟨g, cap, rfl, -, -, hr⟩
 ·exact ⟨[], _, rfl, ⟨none, 0, rfl, fun k hk => absurd hk (by simp)⟩, hs, hmem, hlen, hb⟩
 ·refine ⟨zs, _, rfl, ⟨some ⟨g, 0, none⟩, cap, rfl, fun k hk => ⟨_, rfl, fun W' hb => ?_⟩⟩, hs, hmem, hlen, hr.1⟩
  have := (hr.on hb).2.2.2 k (by simpa using hk)
  rw [Nat.zero_add] at this
  rw [show (Addr.add ⟨g, 0, none⟩ k) = ⟨g, k, none⟩ by simp [Addr.add]; exact fun h => h.symm]
  rw [this.1]
  simp [hk]
theorem run_val (p q : Option Addr) (n c m d : Nat) (W : World) : (Instr.field 39 (.agg #[.slice p n c, .slice q m d]) 1).run Tryz.prog W = .ok (.slice q m d) W := by kernel_rfl
theorem conv_own3 (W : World) (q : List UInt8) (hs : q.length ≤ maxLen) : ∃ W1 cap, (convert 9 37 (.string ⟨q.toArray⟩)).run Tryz.prog W = .ok (.slice (some ⟨W.heap.size, 0, none⟩) q.length cap) W1 ∧ Below W.heap.size W W1 ∧
  ByT W1 (some ⟨W.heap.size, 0, none⟩) q ∧ q.length ≤ cap ∧ cap ≤ maxLen := by
 have e : (⟨q.toArray⟩ : ByteArray).size = q.length := by simp [ByteArray.size]
 have hge : (⟨q.toArray⟩ : ByteArray).size ≤ grownCap W (⟨q.toArray⟩ : ByteArray).size 0 5 := Go.grownCap_ge _ _ _ _
 refine ⟨_, _, by rw [← e]; exact Go.run_bytes_of_string (P := Tryz.prog) W 9 37 5 ⟨q.toArray⟩ Tryz.underlying9 Tryz.underlying37 Tryz.underlying5, ((Below.refl _ W).drew).alloc (Nat.le_refl _) _, fun h0 => ⟨W.heap.size, 0, _, _, rfl, heap_alloc_new W.drew _, fun i hi => ?_⟩, by rw [← e]; exact hge, Go.grownCap_le_maxLen W _ 0 5 (by rw [e]; exact hs)⟩
 rw [Nat.zero_add, Go.bytesRow_at _ _ i (by simpa using hi)]
 simp [List.getD_eq_getElem?_getD, List.getElem?_eq_getElem hi]
structure KV where
 A : Option Addr
 c : Nat
 key : List UInt8
def encK (x : KV) : List Value := [.slice x.A x.key.length x.c]
theorem kindK : Kind 37 encK 1 24 := Kind.mk' (z := .slice none 0 0) (fun _ => rfl) (fun a u hu => by
 simp only [encK, List.mem_cons, List.not_mem_nil, or_false] at hu
 subst hu; rfl) (by decide) (by kernel_rfl) rfl
def KAt (W : World) (x : KV) : Prop := ByT W x.A x.key ∧ x.key.length ≤ x.c ∧ x.c ≤ maxLen
theorem KAt.keep {W W' : World} {x : KV} {T : TypeId} (h : KAt W x) (hk : KeepT T W W') (hT : 5 ≠ T) : KAt W' x := ⟨h.1.keep hk hT, h.2⟩
theorem KAt.on {W W' : World} {x : KV} (h : KAt W x) (hb : Below W.heap.size W W') : KAt W' x := ⟨h.1.on hb, h.2⟩
def KRow (w : World) (v : Value) (l : List (List UInt8)) (W : World) : Prop := ∃ l' : List KV, RowI w 37 1 encK v l' W ∧ (∀ x ∈ l', KAt W x) ∧ l'.map KV.key = l
section
variable {w w0 W W' : World} {v : Value} {l : List (List UInt8)}
theorem KRow.nil (hb : Below w.heap.size w W) : KRow w (.slice none 0 0) [] W := ⟨[], RowI.nil hb, fun x hx => (by cases hx), rfl⟩
theorem KRow.on (h : KRow w v l W) (hb : Below W.heap.size W W') : KRow w v l W' := by
 obtain ⟨l', h1, h2, h3⟩ := h
 exact ⟨l', h1.on hb, fun x hx => (h2 x hx).on hb, h3⟩
theorem KRow.below (h : KRow w v l W) : Below w.heap.size w W := h.choose_spec.1.1
theorem KRow.base {w1 : World} (h : KRow w1 v l W) (hb : Below w.heap.size w w1) : KRow w v l W := by
 obtain ⟨l', h1, h2, h3⟩ := h
 exact ⟨l', h1.base8 hb, h2, h3⟩
theorem append_k (HR : KRow w0 v l W) (x : KV) (hx : KAt W x) (t' : TypeId) {cs : Array Value} (hcs : cs.toList = encK x) (hn : l.length + 1 ≤ 1000000)
  {ops : Array Oper} {rest : List Oper} {o : Oper} {a : Act} {Q : Exit → Act → World → Prop} (hgd : o.guard = none) (s y : Operand)
  (ho : o.op = .call { callee := .builtin .append, args := #[s, y], argTypes := #[46, 46] })
  (hs : a.eval s = v) (c : Nat) (hy : a.eval y = .slice (some ⟨W.heap.size, 0, none⟩) 1 c)
  (h : ∀ v' w', KRow w0 v' (l ++ [x.key]) w' → KeepT 37 W w' → wpList Tryz.prog ops Q rest (a.put o.dst v') w') :
  wpList Tryz.prog ops Q (o :: rest) a (W.alloc (Obj.cells cs t' (0, 0))) := by
 obtain ⟨l', h1, h2, h3⟩ := HR
 obtain ⟨i0, z, hi, hz0, hz1, hz2, hz3⟩ := kindK.info
 have hl : l'.length = l.length := by rw [← h3, List.length_map]
 have hA := h1.alloc (Obj.cells cs t' (0, 0))
 have hnew := heap_alloc_new W (Obj.cells cs t' (0, 0))
 have hb1 : Below W.heap.size W (W.alloc (Obj.cells cs t' (0, 0))) := (Below.refl _ W).alloc (Nat.le_refl _) _
 refine wpList_append_own _ hgd s y 46 ho w0.heap.size 37 i0 z 1 24 Tryz.underlying46 hi hz0 hz1 hz2 hz3 (by decide) v l'.length (l'.flatMap encK) hs hA.2 ⟨W.heap.size, 0, none⟩ 1 c (encK x) hy (by rw [kindK.len]) ?_ (kindK.one x) (by unfold maxLen; omega) (by omega) hA.1.size ?_
 ·intro j u hu
  rw [add_off, blk_cell hnew, ← hu, ← hcs, Array.getElem?_toList]
 ·intro v' w' hown hgrow _
  have hk : KeepT 37 W w' := (KeepT.below hb1).trans (KeepT.grown hA.2 hgrow)
  refine h v' w' ⟨l' ++ [x], ⟨grownB hA.1 (Nat.le_refl _) hgrow (fun k hk => (hA.2.lt k hk).1), ?_⟩, fun y hy => ?_, by rw [List.map_append, h3]; rfl⟩ hk
  ·rw [List.length_append, List.flatMap_append, List.flatMap_cons, List.flatMap_nil, List.append_nil]
   exact hown
  ·rcases List.mem_append.1 hy with hy | hy
   ·exact (h2 y hy).keep hk (by decide)
   ·rw [List.mem_singleton.1 hy]; exact hx.keep hk (by decide)
end
theorem putD_next {l1 l2 : List IV} {zs : List (List UInt8)} {k : Nat} (hk : k < zs.length) : putD l1 l2 (zs.take (k + 1)) = putD l1 l2 (zs.take k) ++ putD l1 l2 [zs[k]] := by
 unfold putD
 rw [List.take_succ_eq_append_getElem hk, List.filterMap_append]
theorem putD_len (l1 l2 : List IV) (zs : List (List UInt8)) : (putD l1 l2 zs).length ≤ zs.length := List.length_filterMap_le _ _
theorem putD_one {l1 l2 : List IV} {z v : List UInt8} (h2 : lastV l2 z = some v) (h1 : lastV l1 z ≠ some v) : putD l1 l2 [z] = [(z, v)] := by
 simp [putD, h2, h1]
theorem putD_no {l1 l2 : List IV} {z v : List UInt8} (h2 : lastV l2 z = some v) (h1 : lastV l1 z = some v) : putD l1 l2 [z] = [] := by
 simp [putD, h2, h1]
theorem goneL_len (l2 : List IV) (zs : List (List UInt8)) : (goneL l2 zs).length ≤ zs.length := List.length_filter_le _ _
theorem goneL_one {l2 : List IV} {z : List UInt8} (h : lastV l2 z = none) : goneL l2 [z] = [z] := by simp [goneL, h]
theorem goneL_no {l2 : List IV} {z v : List UInt8} (h : lastV l2 z = some v) : goneL l2 [z] = [] := by simp [goneL, h]
theorem goneL_next {l2 : List IV} {zs : List (List UInt8)} {k : Nat} (hk : k < zs.length) : goneL l2 (zs.take (k + 1)) = goneL l2 (zs.take k) ++ goneL l2 [zs[k]] := by
 unfold goneL
 rw [List.take_succ_eq_append_getElem hk, List.filter_append]
set_option maxRecDepth 100000 in
set_option maxHeartbeats 8000000 in
theorem Delta_any (l1 l2 : List IV) (A1 A2 : Option Addr) (c1 c2 : Nat) (hl1 : l1.length ≤ 100000) (hl2 : l2.length ≤ 100000) (hsz : ∀ x ∈ l2, x.val.length ≤ 140737488355328) (w : World) (h1 : ItsAt w A1 l1) (h2 : ItsAt w A2 l2) :
  Calls Tryz.prog 20 #[.slice A1 l1.length c1, .slice A2 l2.length c2] w fun e w' => ∃ vp vg z1 z2, e = .returned (.tuple #[vp, vg]) ∧ z1.Pairwise (fun a b => bl a b = true) ∧ (∀ z, z ∈ z1 ↔ (lastV l1 z).isSome = true) ∧ z2.Pairwise (fun a b => bl a b = true) ∧ (∀ z, z ∈ z2 ↔ (lastV l2 z).isSome = true) ∧ ItRow w vp (putD l1 l2 z2) w' ∧ KRow w vg (goneL l2 z1) w' := by
 have HI1 := Lib.hid (fun W (hb : Below w.heap.size w W) => h1.on hb)
 have HI2 := Lib.hid (fun W (hb : Below w.heap.size w W) => h2.on hb)
 have HK1 := Lib.hid (fun W (hb : Below w.heap.size w W) => lasts_any l1 A1 c1 (by omega) (fun x hx => Nat.le_trans ((h1.on hb).2 x hx).kcap.1 ((h1.on hb).2 x hx).kcap.2.1) W (h1.on hb))
 have HK2 := Lib.hid (fun W (hb : Below w.heap.size w W) => lasts_any l2 A2 c2 (by omega) (fun x hx => Nat.le_trans ((h2.on hb).2 x hx).kcap.1 ((h2.on hb).2 x hx).kcap.2.1) W (h2.on hb))
 have HL1 := Lib.hid hl1
 have HL2 := Lib.hid hl2
 have HSZ := Lib.hid hsz
 clear h1 h2 hl1 hl2 hsz
 have hfv := run_val
 have HC1 := Lib.hid (HK1.out w (Below.refl _ _))
 go_enter Tryz.func20, Tryz.ntmps20
 go_upto_region 1 with (fail)
 go_wp2_with fail
 go_at_call 51
 refine HC1.out.mono ?_
 rintro e W1 ⟨b1, L1, rfl, hLs1⟩
 have HB1 := Lib.hid hLs1.below
 have HS1 := Lib.hid hLs1
 have HC2 := Lib.hid (HK2.out W1 HB1.out)
 clear hLs1 HC1
 go_wp2_with fail
 go_at_call 51
 refine HC2.out.mono ?_
 rintro e W2 ⟨b2, L2, rfl, hLs2⟩
 have HS1 := Lib.hid (HS1.out.on hLs2.below)
 have HB2 := Lib.hid HS1.out.below
 have HS2 := Lib.hid hLs2
 clear hLs2 HC2
 go_upto_region 2 with (fail)
 go_wp2_with fail
 go_at_call 53
 refine (keysS_any _ _).mono ?_
 rintro e W3 ⟨rfl, rfl⟩
 have hb3 : Below W2.heap.size W2 (W2.alloc (.cells #[.map (some b2)] 96)) := (Below.refl _ _).alloc (Nat.le_refl _) _
 have hm3 : (W2.alloc (.cells #[.map (some b2)] 96)).cell? ⟨W2.heap.size, 0, none⟩ = some (.map (some b2)) := blk_cell (heap_alloc_new _ _) 0
 have hz3 : W2.heap.size < (W2.alloc (.cells #[.map (some b2)] 96)).heap.size := by rw [World.size_alloc]; omega
 generalize W2.alloc (.cells #[.map (some b2)] 96) = W3 at hb3 hm3 hz3 ⊢
 have HC3 := Lib.hid (keysOf_any (by have := HL2.out; omega) W3 W2.heap.size hz3 hm3 (HS2.out.on hb3))
 have HB3 := Lib.hid hb3
 obtain ⟨g2, hg2⟩ : ∃ g, W2.heap.size = g := ⟨_, rfl⟩
 rw [hg2] at HC3 ⊢
 clear hb3 hm3 hz3 hg2
 go_wp2_with fail
 go_at_call 52
 refine HC3.out.mono ?_
 rintro e W4 ⟨z2, v2, rfl, ⟨A4, c4, rfl, hst⟩, hpw2, hmem2, hlen2, hb4⟩
 have HST := Lib.hid hst
 have HPW2 := Lib.hid hpw2
 have HMEM2 := Lib.hid hmem2
 have HZ2 : Hid (z2.length ≤ 100000) := by have := HL2.out; unfold Hid; omega
 have hb24 : Below W2.heap.size W2 W4 := HB3.out.trans (hb4.mono HB3.out.size)
 have HT1 := Lib.hid (HS1.out.on hb24)
 have HT2 := Lib.hid (HS2.out.on hb24)
 have HB4 := Lib.hid (HT1.out.below)
 clear hst hpw2 hmem2 hlen2 hb4 hb24 HS1 HS2 HB3 HC3
 go_wp2_with fail
 go_loopg [4, 24] z2.length (fun g v i wr => ∃ k : Nat, k ≤ z2.length ∧ g = z2.length - k ∧ i = .int .i64 (k : Int) ∧ ItRow W4 v (putD l1 l2 (z2.take k)) wr)
 case atStart => exact ⟨0, Nat.zero_le _, rfl, rfl, ItRow.nil (Below.refl _ _)⟩
 case round =>
  obtain ⟨k, hk, hgk, rfl, HV⟩ := hrel
  have HGK := Lib.hid hgk
  clear hgk
  by_cases hlt : k < z2.length
  ·have b0 : (0 : Int) ≤ (k : Int) := by omega
   have b1 : (k : Int) < (z2.length : Int) := by omega
   have hk0 : IntKind.i64.wrap ((k : Int) + 1) = (k : Int) + 1 := IntWalk.i64_in _ (by have := HZ2.out; omega)
   have hT := Lib.hid (putD_next (l1 := l1) (l2 := l2) hlt)
   obtain ⟨ad, rfl, hcell⟩ := HST.out k hlt
   have hc0 := hcell wr HV.below
   obtain ⟨v0, hv0⟩ := Option.isSome_iff_exists.1 ((HMEM2.out z2[k]).1 (List.getElem_mem hlt))
   have hln : Hid ((putD l1 l2 (z2.take k)).length + 1 ≤ 1000000) := by
    have h3 := putD_len l1 l2 (z2.take k)
    have := HZ2.out
    rw [List.length_take] at h3
    unfold Hid
    omega
   clear hcell
   generalize putD l1 l2 (z2.take k) = P0 at *
   generalize z2[k] = z at *
   obtain ⟨y, hy, rfl⟩ : ∃ y, lastOf l2 ⟨z.toArray⟩ = some y ∧ y.val = v0 := by
    unfold lastV at hv0
    obtain ⟨y, hy, e⟩ := Option.map_eq_some_iff.1 hv0
    exact ⟨y, hy, e⟩
   obtain ⟨hyl, hyk⟩ := lastOf_mem hy
   have hkey : y.key = z := by
    have := congrArg (fun b : ByteArray => b.data.toList) hyk
    simpa [IV.kS] using this
   have HYA := Lib.hid (fun W (hb : Below W4.heap.size W4 W) => (HI2.out W (HB4.out.trans (hb.mono HB4.out.size))).2 y hyl)
   have HZL : Hid (z.length ≤ maxLen) := by have := (HYA.out W4 (Below.refl _ _)).kcap; rw [hkey] at this; exact Nat.le_trans this.1 this.2.1
   have HVL := Lib.hid (HSZ.out y hyl)
   have HKY := Lib.hid hkey
   obtain ⟨s, hs⟩ : ∃ s : ByteArray, (⟨z.toArray⟩ : ByteArray) = s := ⟨_, rfl⟩
   have HSS := Lib.hid hs
   have hok : Hid (OkS s) := by rw [← hs]; unfold Hid OkS; simpa [ByteArray.size] using HZL.out
   rw [hs] at hc0 hy
   have HY := Lib.hid hy
   have HLV2 := Lib.hid hv0
   clear hs hy hyk hkey hv0 hyl
   have HVB := Lib.hid HV.below
   cases ho : lastOf l1 s with
   |none =>
    have HO := Lib.hid ho
    have HNE : Hid (lastV l1 z ≠ some y.val) := by unfold Hid lastV; rw [HSS.out, HO.out]; simp
    clear ho
    go_upto_region 6 with (at_lookup; refine wp_look rfl _ _ 96 rfl 39 keyS Tryz.underlying96 (zeroIt _) _ rfl (HT1.out.on HVB.out).map hok.out rfl ?_; intro r hr; obtain rfl := HT1.out.no hr HO.out; clear hr; dsimp only [iV, noIt])
    have HB6 := Lib.hid ((Below.refl wr.heap.size wr).alloc (Nat.le_refl _) (Obj.cells #[.slice none ([] : List UInt8).length 0, .slice none ([] : List UInt8).length 0] 39))
    go_upto_region 7 with (fail)
    generalize (World.alloc _ _) = W6 at *
    obtain ⟨W8, c8, hrun, hb8, hB8, hc8, hm8⟩ := conv_own3 W6 z HZL.out
    rw [HSS.out] at hrun
    have HB8 := Lib.hid (HB6.out.trans (hb8.mono HB6.out.size))
    have HV8 := Lib.hid (HV.on HB8.out)
    have HB48 := Lib.hid (HVB.out.trans (HB8.out.mono HVB.out.size))
    have hya := HYA.out W8 HB48.out
    have HCL := Lib.hid (Clone_any (c := y.vc) hya.val.bytes hya.vcap.2.2 HVL.out)
    have HB8T := Lib.hid hB8
    have HC8 := Lib.hid (And.intro hc8 hm8)
    generalize W6.heap.size = g8 at *
    clear hya hB8 hc8 hm8 hb8
    go_wp2_with (first
     |(at_lookup; refine wp_look1 rfl _ _ 96 rfl 39 keyS Tryz.underlying96 (zeroIt _) _ rfl (HT2.out.on HB48.out).map hok.out rfl ?_; intro r hr; obtain rfl := HT2.out.yes hr HY.out; clear hr; dsimp only [iV])
     |(go_at_call 54; go_must ((with_reducible refine HCL.out.mono ?_); rintro e' W9 ⟨v9, rfl, hR9⟩; obtain ⟨A9, c9, rfl, hB9, hn9, hm9, hz9⟩ := hR9.byT; have HX9 : Hid (ItAt W9 ⟨z, some ⟨g8, 0, none⟩, c8, y.val, A9, c9⟩) := Lib.hid ⟨HB8T.out.on hR9.1, hB9, ⟨HC8.out.1, HC8.out.2, fun e => by cases e⟩, ⟨hn9, hm9, hz9⟩⟩; have HV9 := Lib.hid (HV8.out.on hR9.1); clear hR9 hB9 hn9 hm9 hz9))
     |(at_builtin; go_must (refine append_it HV9.out _ HX9.out _ rfl hln.out rfl _ _ rfl rfl _ rfl ?_; rintro v10 W10 hR10 -; have HR10 := Lib.hid hR10; clear hR10)))
    go_roundg (z2.length - (k + 1))
    case measure => have := HGK.out; omega
    case rel =>
     refine ⟨k + 1, by omega, rfl, by go_num, ?_⟩
     rw [hT.out, putD_one HLV2.out HNE.out]
     exact HR10.out
   |some x =>
    have HO := Lib.hid ho
    obtain ⟨hxl, hxk⟩ := lastOf_mem ho
    rw [← HSS.out] at hxk
    have hkx : x.key = z := by
     have := congrArg (fun b : ByteArray => b.data.toList) hxk
     simpa [IV.kS] using this
    have HXA := Lib.hid (fun W (hb : Below W4.heap.size W4 W) => (HI1.out W (HB4.out.trans (hb.mono HB4.out.size))).2 x hxl)
    have HKX := Lib.hid hkx
    clear ho hxl hxk hkx
    go_upto_region 6 with (at_lookup; refine wp_look rfl _ _ 96 rfl 39 keyS Tryz.underlying96 (zeroIt _) _ rfl (HT1.out.on HVB.out).map hok.out rfl ?_; intro r hr; obtain rfl := HT1.out.yes hr HO.out; clear hr; dsimp only [iV])
    have HB6 := Lib.hid ((Below.refl wr.heap.size wr).alloc (Nat.le_refl _) (Obj.cells #[.slice x.kA x.key.length x.kc, .slice x.vA x.val.length x.vc] 39))
    have hnew := heap_alloc_new wr (Obj.cells #[.slice x.kA x.key.length x.kc, .slice x.vA x.val.length x.vc] 39)
    generalize (World.alloc _ _) = W6 at *
    have d0 : W6.cell? ⟨wr.heap.size, 0, none⟩ = some (.slice x.kA x.key.length x.kc) := blk_cell hnew 0
    have d1 : W6.cell? ⟨wr.heap.size, 1, none⟩ = some (.slice x.vA x.val.length x.vc) := blk_cell hnew 1
    clear hnew
    have HB46 := Lib.hid (HVB.out.trans (HB6.out.mono HVB.out.size))
    have hsm := same_any x y (HXA.out W6 HB46.out) (HYA.out W6 HB46.out)
    rw [HKX.out, HKY.out] at hsm
    unfold iV at hsm
    obtain ⟨g6, hg6⟩ : ∃ g, wr.heap.size = g := ⟨_, rfl⟩
    rw [hg6] at d0 d1 ⊢
    clear hg6
    have HB66 := HB6
    have hlook := (HT2.out.on HB46.out).look1 hok.out HY.out
    clear HB6
    by_cases hxy : x.val = y.val
    ·have hbb : (decide (z = z) && decide (x.val = y.val)) = true := by simp [hxy]
     rw [hbb] at hsm
     have HSM := Lib.hid hsm
     have HEQ : Hid (lastV l1 z = some y.val) := by unfold Hid lastV; rw [HSS.out, HO.out, ← hxy]; rfl
     clear hsm hbb hxy
     go_wp2_with ((go_at_call 49; go_must ((with_reducible refine HSM.out.mono ?_); rintro e' W7 ⟨rfl, hB7⟩; have HB7 := Lib.hid (HB66.out.trans (hB7.mono HB66.out.size)); clear hB7)))
     clear hlook
     go_roundg (z2.length - (k + 1))
     case measure => have := HGK.out; omega
     case rel =>
      refine ⟨k + 1, by omega, rfl, by go_num, ?_⟩
      rw [hT.out, putD_no HLV2.out HEQ.out, List.append_nil]
      exact HV.on HB7.out
    ·have hbb : (decide (z = z) && decide (x.val = y.val)) = false := by simp [hxy]
     rw [hbb] at hsm
     have HSM := Lib.hid hsm
     have HNE : Hid (lastV l1 z ≠ some y.val) := by
      unfold Hid lastV
      rw [HSS.out, HO.out]
      exact fun e => hxy (Option.some.inj e)
     clear hsm hbb hxy
     go_upto_region 7 with ((go_at_call 49; go_must ((with_reducible refine HSM.out.mono ?_); rintro e' W7 ⟨rfl, hB7⟩; have HB6 := Lib.hid (HB66.out.trans (hB7.mono HB66.out.size)); clear hB7)))
     clear d0 d1 HSM HB46 hlook
     generalize W6 = W5 at *
     generalize W7 = W6 at *
     obtain ⟨W8, c8, hrun, hb8, hB8, hc8, hm8⟩ := conv_own3 W6 z HZL.out
     rw [HSS.out] at hrun
     have HB8 := Lib.hid (HB6.out.trans (hb8.mono HB6.out.size))
     have HV8 := Lib.hid (HV.on HB8.out)
     have HB48 := Lib.hid (HVB.out.trans (HB8.out.mono HVB.out.size))
     have hya := HYA.out W8 HB48.out
     have HCL := Lib.hid (Clone_any (c := y.vc) hya.val.bytes hya.vcap.2.2 HVL.out)
     have HB8T := Lib.hid hB8
     have HC8 := Lib.hid (And.intro hc8 hm8)
     generalize W6.heap.size = g8 at *
     clear hya hB8 hc8 hm8 hb8
     go_wp2_with (first
      |(at_lookup; refine wp_look1 rfl _ _ 96 rfl 39 keyS Tryz.underlying96 (zeroIt _) _ rfl (HT2.out.on HB48.out).map hok.out rfl ?_; intro r hr; obtain rfl := HT2.out.yes hr HY.out; clear hr; dsimp only [iV])
      |(go_at_call 54; go_must ((with_reducible refine HCL.out.mono ?_); rintro e' W9 ⟨v9, rfl, hR9⟩; obtain ⟨A9, c9, rfl, hB9, hn9, hm9, hz9⟩ := hR9.byT; have HX9 : Hid (ItAt W9 ⟨z, some ⟨g8, 0, none⟩, c8, y.val, A9, c9⟩) := Lib.hid ⟨HB8T.out.on hR9.1, hB9, ⟨HC8.out.1, HC8.out.2, fun e => by cases e⟩, ⟨hn9, hm9, hz9⟩⟩; have HV9 := Lib.hid (HV8.out.on hR9.1); clear hR9 hB9 hn9 hm9 hz9))
      |(at_builtin; go_must (refine append_it HV9.out _ HX9.out _ rfl hln.out rfl _ _ rfl rfl _ rfl ?_; rintro v10 W10 hR10 -; have HR10 := Lib.hid hR10; clear hR10)))
     go_roundg (z2.length - (k + 1))
     case measure => have := HGK.out; omega
     case rel =>
      refine ⟨k + 1, by omega, rfl, by go_num, ?_⟩
      rw [hT.out, putD_one HLV2.out HNE.out]
      exact HR10.out
  ·obtain rfl : k = z2.length := by omega
   rw [List.take_length] at HV
   have HP := Lib.hid HV
   clear HV
   go_wp2_with fail
   go_at_call 53
   refine (keysS_any _ _).mono ?_
   rintro e W5 ⟨rfl, rfl⟩
   have hb5 : Below wr.heap.size wr (wr.alloc (.cells #[.map (some b1)] 96)) := (Below.refl _ _).alloc (Nat.le_refl _) _
   have hm5 : (wr.alloc (.cells #[.map (some b1)] 96)).cell? ⟨wr.heap.size, 0, none⟩ = some (.map (some b1)) := blk_cell (heap_alloc_new _ _) 0
   have hz5 : wr.heap.size < (wr.alloc (.cells #[.map (some b1)] 96)).heap.size := by rw [World.size_alloc]; omega
   generalize wr.alloc (.cells #[.map (some b1)] 96) = W5 at hb5 hm5 hz5 ⊢
   have hb45 := HP.out.below.trans (hb5.mono HP.out.below.size)
   have HC5 := Lib.hid (keysOf_any (by have := HL1.out; omega) W5 wr.heap.size hz5 hm5 (HT1.out.on hb45))
   have HP5 := Lib.hid (HP.out.on hb5)
   have HT1 := Lib.hid (HT1.out.on hb45)
   have HT2 := Lib.hid (HT2.out.on hb45)
   obtain ⟨g5, hg5⟩ : ∃ g, wr.heap.size = g := ⟨_, rfl⟩
   rw [hg5] at HC5 ⊢
   clear hb5 hm5 hz5 hg5 hb45 HP
   go_wp2_with fail
   go_at_call 52
   refine HC5.out.mono ?_
   rintro e W6 ⟨z1, v6, rfl, ⟨A6, c6, rfl, hst1⟩, hpw1, hmem1, hlen1, hb6⟩
   have HST1 := Lib.hid hst1
   have HPW1 := Lib.hid hpw1
   have HMEM1 := Lib.hid hmem1
   have HZ1 : Hid (z1.length ≤ 100000) := by have := HL1.out; unfold Hid; omega
   have HP6 := Lib.hid (HP5.out.on hb6)
   have HT1 := Lib.hid (HT1.out.on hb6)
   have HT2 := Lib.hid (HT2.out.on hb6)
   have HB6 := Lib.hid HT1.out.below
   clear hst1 hpw1 hmem1 hlen1 hb6 HP5 HC5
   go_wp2_with fail
   go_loopg [5, 60] z1.length (fun g v i wr => ∃ k : Nat, k ≤ z1.length ∧ g = z1.length - k ∧ i = .int .i64 (k : Int) ∧ KRow W6 v (goneL l2 (z1.take k)) wr)
   case atStart => exact ⟨0, Nat.zero_le _, rfl, rfl, KRow.nil (Below.refl _ _)⟩
   case round =>
    obtain ⟨k, hk, hgk, rfl, HV⟩ := hrel
    have HGK := Lib.hid hgk
    clear hgk
    by_cases hlt : k < z1.length
    ·have b0 : (0 : Int) ≤ (k : Int) := by omega
     have b1 : (k : Int) < (z1.length : Int) := by omega
     have hk0 : IntKind.i64.wrap ((k : Int) + 1) = (k : Int) + 1 := IntWalk.i64_in _ (by have := HZ1.out; omega)
     have hT := Lib.hid (goneL_next (l2 := l2) hlt)
     obtain ⟨ad1, rfl, hcell⟩ := HST1.out k hlt
     have hc0 := hcell wr HV.below
     obtain ⟨v0, hv0⟩ := Option.isSome_iff_exists.1 ((HMEM1.out z1[k]).1 (List.getElem_mem hlt))
     have hln : Hid ((goneL l2 (z1.take k)).length + 1 ≤ 1000000) := by
      have h3 := goneL_len l2 (z1.take k)
      have := HZ1.out
      rw [List.length_take] at h3
      unfold Hid
      omega
     clear hcell
     generalize goneL l2 (z1.take k) = P0 at *
     generalize z1[k] = z at *
     obtain ⟨y, hy, -⟩ : ∃ y, lastOf l1 ⟨z.toArray⟩ = some y ∧ y.val = v0 := by
      unfold lastV at hv0
      obtain ⟨y, hy, e⟩ := Option.map_eq_some_iff.1 hv0
      exact ⟨y, hy, e⟩
     obtain ⟨hyl, hyk⟩ := lastOf_mem hy
     have hkey : y.key = z := by
      have := congrArg (fun b : ByteArray => b.data.toList) hyk
      simpa [IV.kS] using this
     have HZL : Hid (z.length ≤ maxLen) := by have := ((HI1.out w (Below.refl _ _)).2 y hyl).kcap; rw [hkey] at this; exact Nat.le_trans this.1 this.2.1
     obtain ⟨s, hs⟩ : ∃ s : ByteArray, (⟨z.toArray⟩ : ByteArray) = s := ⟨_, rfl⟩
     have HSS := Lib.hid hs
     have hok : Hid (OkS s) := by rw [← hs]; unfold Hid OkS; simpa [ByteArray.size] using HZL.out
     rw [hs] at hc0
     clear hs hy hyk hkey hv0 hyl
     have HVB := Lib.hid HV.below
     cases ho : lastOf l2 s with
     |some x =>
      have HO := Lib.hid ho
      have HN : Hid (lastV l2 z = some x.val) := by unfold Hid lastV; rw [HSS.out, HO.out]; rfl
      clear ho
      go_wp2_with (at_lookup; refine wp_look rfl _ _ 96 rfl 39 keyS Tryz.underlying96 (zeroIt _) _ rfl (HT2.out.on HVB.out).map hok.out rfl ?_; intro r hr; obtain rfl := HT2.out.yes hr HO.out; clear hr; dsimp only [iV])
      go_roundg (z1.length - (k + 1))
      case measure => have := HGK.out; omega
      case rel =>
       refine ⟨k + 1, by omega, rfl, by go_num, ?_⟩
       rw [hT.out, goneL_no HN.out, List.append_nil]
       exact HV.on ((Below.refl wr.heap.size wr).alloc (Nat.le_refl _) _)
     |none =>
      have HO := Lib.hid ho
      have HN : Hid (lastV l2 z = none) := by unfold Hid lastV; rw [HSS.out, HO.out]; rfl
      clear ho
      go_upto_region 13 with (at_lookup; refine wp_look rfl _ _ 96 rfl 39 keyS Tryz.underlying96 (zeroIt _) _ rfl (HT2.out.on HVB.out).map hok.out rfl ?_; intro r hr; obtain rfl := HT2.out.no hr HO.out; clear hr; dsimp only [iV, noIt])
      have HB7 := Lib.hid ((Below.refl wr.heap.size wr).alloc (Nat.le_refl _) (Obj.cells #[.slice none ([] : List UInt8).length 0, .slice none ([] : List UInt8).length 0] 39))
      go_upto_region 14 with (fail)
      generalize (World.alloc _ _) = W7 at *
      obtain ⟨W8, c8, hrun, hb8, hB8, hc8, hm8⟩ := conv_own3 W7 z HZL.out
      rw [HSS.out] at hrun
      have HB8 := Lib.hid (HB7.out.trans (hb8.mono HB7.out.size))
      have HV8 := Lib.hid (HV.on HB8.out)
      have HX8 : Hid (KAt W8 ⟨some ⟨W7.heap.size, 0, none⟩, c8, z⟩) := ⟨hB8, hc8, hm8⟩
      generalize W7.heap.size = g8 at *
      clear hB8 hc8 hm8 hb8
      go_wp2_with (at_builtin; go_must (refine append_k HV8.out _ HX8.out _ rfl hln.out rfl _ _ rfl rfl _ rfl ?_; rintro v10 W10 hR10 -; have HR10 := Lib.hid hR10; clear hR10))
      go_roundg (z1.length - (k + 1))
      case measure => have := HGK.out; omega
      case rel =>
       refine ⟨k + 1, by omega, rfl, by go_num, ?_⟩
       rw [hT.out, goneL_one HN.out]
       exact HR10.out
    ·obtain rfl : k = z1.length := by omega
     rw [List.take_length] at HV
     have HG := Lib.hid HV
     clear HV
     go_wp2
     refine bodyPost_ret (v := .tuple #[u4, u5]) ?_ rfl ⟨u4, u5, z1, z2, rfl, HPW1.out, HMEM1.out, HPW2.out, HMEM2.out, ?_, HG.out.base HB6.out⟩
     ·simp [results, Tryz.results20, go_sem]
     ·exact (HP6.out.on HG.out.below).base HB4.out
end Go.Proofs.YtoiamjglklgcdaaGreat

namespace Go.Proofs.YtoiamjglklgcdaaGreat
open Go.RowKit Go.Lib

structure ItRd (W : World) (x : IV) : Prop where
 key : BytesAt W x.kA x.key.length x.key
 val : BytesAt W x.vA x.val.length x.val
 kn : x.kA = none → x.kc = 0
 vn : x.vA = none → x.vc = 0
theorem ItRd.on {W W' : World} {x : IV} (h : ItRd W x) (hb : Below W.heap.size W W') : ItRd W' x := ⟨h.key.on hb, h.val.on hb, h.kn, h.vn⟩
theorem ItAt.rd {W : World} {x : IV} (h : ItAt W x) : ItRd W x := ⟨h.key.bytes, h.val.bytes, h.kcap.2.2, h.vcap.2.2⟩
def ItsRd (W : World) (A : Option Addr) (l : List IV) : Prop := Items W W.heap.size A encI l ∧ ∀ x ∈ l, ItRd W x
theorem ItsRd.on {W W' : World} {A : Option Addr} {l : List IV} (h : ItsRd W A l) (hb : Below W.heap.size W W') : ItsRd W' A l := ⟨h.1.on hb, fun x hx => (h.2 x hx).on hb⟩
theorem ItsAt.rd {W : World} {A : Option Addr} {l : List IV} (h : ItsAt W A l) : ItsRd W A l := ⟨h.1, fun x hx => (h.2 x hx).rd⟩
theorem itsR_at {W : World} {A : Option Addr} {l : List IV} (h : ItsRd W A l) {k : Nat} (hk : k < l.length) : ∃ ad, A = some ad ∧ W.cell? (ad.add (k * 2)) = some (.slice l[k].kA l[k].key.length l[k].kc) ∧ W.cell? ⟨(ad.add (k * 2)).block, (ad.add (k * 2)).off + 1, none⟩ = some (.slice l[k].vA l[k].val.length l[k].vc) := by
 obtain ⟨ad, e, -, h0, h1⟩ := h.1.at kindI.len hk
 exact ⟨ad, e, h0 _ (by decide) rfl, h1 1 _ (by decide) (by decide) rfl⟩
theorem step_appR {w0 W : World} {v : Value} {l : List UInt8} (HR : BRow w0 v l W) (qs : List UInt8) (A : Option Addr) (c : Nat) (hq : BytesAt W A qs.length qs) (hnil : A = none → c = 0) (hb : l.length + qs.length ≤ 140737488355328)
  {ops : Array Oper} {o : Oper} {a : Act} {K : Act → World → Prop} {Q : Exit → Act → World → Prop} {E : Prop} (hgd : o.guard = none) (s x : Operand)
  (ho : o.op = .call { callee := .builtin .append, args := #[s, x], argTypes := #[37, 37] })
  (hs : a.eval s = v) (hx : a.eval x = .slice A qs.length c)
  (h : ∀ v' w', BRow w0 v' (l ++ qs) w' → W.grownBy w' v.ownBlock → (v'.ownBlock = v.ownBlock ∨ v'.ownBlock = some W.heap.size) → K (a.put o.dst v') w') :
  if Region.wanted o (yielded ops a.tmps) = true then Oper.wp Tryz.prog o a W K Q else E := by
 have hw : Region.wanted o (yielded ops a.tmps) = true := by simp [Region.wanted, hgd]
 rw [if_pos hw]
 obtain ⟨i0, z, hi, hz0, hz1, hz2⟩ : ∃ i z, Tryz.prog.info? 5 = some i ∧ i.zero = some z ∧ i.size = 1 ∧ (i.bytes = 1 ∧ z.cells.size = 1) := by
  obtain ⟨i, h1, h2, h3, h4⟩ := info_parts infoB
  exact ⟨i, _, h1, h2, h3, h4, rfl⟩
 cases A with
 |none =>
  obtain rfl : qs = [] := by
   cases qs with
   |nil => rfl
   |cons p q => obtain ⟨_, _, e, _⟩ := hq (by simp); cases e
  obtain rfl := hnil rfl
  have hrun := run_append_owned_none (P := Tryz.prog) (w := W) w0.heap.size 37 o.type 5 i0 1 Tryz.underlying37 hi v l.length (byV l) HR.2
  have h' := h v W (by rw [List.append_nil]; exact HR) (World.grownBy.refl W _) (.inl rfl)
  unfold Oper.wp
  have hx' : a.eval x = .slice none 0 0 := hx
  simp [execOp, ho, resolve, invoke, builtin, hs, hx', hrun, Result.andThen]
  exact h'
 |some ad =>
  obtain ⟨v', w', hr, hown, hgrow, -, hat⟩ := run_append_own_at (P := Tryz.prog) W w0.heap.size 37 o.type 5 i0 z 1 1 Tryz.underlying37 hi hz0 hz1 hz2.1 hz2.2 (by decide) v l.length (byV l) HR.2 ad qs.length c (byV qs) (by rw [byV_len, Nat.mul_one]) (fun j u hu => by
   have hj : j < qs.length := by
    have := (List.getElem?_eq_some_iff.1 hu).1
    rwa [byV_len] at this
   obtain ⟨g, o', e, hc⟩ := hq (by omega)
   cases e
   rw [show (⟨g, o', none⟩ : Addr).add j = ⟨g, o' + j, none⟩ by simp [Addr.add], hc j hj, ← hu]
   simp [byV, List.getD_eq_getElem?_getD, List.getElem?_eq_getElem hj]) (fun u hu => by
   obtain ⟨y, _, rfl⟩ := List.mem_map.1 hu
   rfl) (by unfold maxLen; omega) (by omega) HR.1.size
  have hgb : Below w0.heap.size w0 w' := HR.1.grown hgrow HR.1.size (fun k hk => (HR.2.lt k hk).1)
  have h' := h v' w' ⟨hgb, by
   rw [List.length_append]
   have : byV (l ++ qs) = byV l ++ byV qs := by simp [byV]
   rw [this]
   exact hown⟩ hgrow hat
  unfold Oper.wp
  simp [execOp, ho, resolve, invoke, builtin, hs, hx, hr, Result.andThen]
  exact h'
set_option maxRecDepth 100000 in
theorem findR_any (l : List IV) (A : Option Addr) (c : Nat) (key : List UInt8) (B : Option Addr) (d : Nat) (hn : l.length ≤ 1000000) (w : World) (hl : ItsRd w A l) (hk : BytesAt w B key.length key) :
  Calls Tryz.prog 16 #[.slice A l.length c, .slice B key.length d] w fun e w' => e = .returned (.int .i64 (findI (l.map IV.it) key)) ∧ Below w.heap.size w w' := by
 have HL := Lib.hid (fun W (h : Below w.heap.size w W) => hl.on h)
 have HC2 := Lib.hid (fun W (h : Below w.heap.size w W) => conv_str (c := d) (hk.on h))
 have hw0 : IntKind.i64.wrap ((l.length : Int) - 1) = (l.length : Int) - 1 := IntWalk.i64_in _ (by omega)
 have HFI : Hid (findI (l.map IV.it) key = findTo (l.map IV.it) key l.length) := by unfold Hid findI; rw [List.length_map]
 clear hl hk
 go_enter Tryz.func16, Tryz.ntmps16
 go_wp2_with fail
 go_loopg [5] l.length (fun g i wr => ∃ k : Nat, k ≤ l.length ∧ g = k ∧ i = .int .i64 ((k : Int) - 1) ∧ Hid (findTo (l.map IV.it) key l.length = findTo (l.map IV.it) key k) ∧ Below w.heap.size w wr)
 case atStart => exact ⟨l.length, Nat.le_refl _, rfl, rfl, rfl, Below.refl _ _⟩
 case round =>
  obtain ⟨k, hk, hgk, rfl, HF, HB⟩ := hrel
  have HGK := Lib.hid hgk
  clear hgk
  cases k with
  |zero =>
   have HE : Hid (findI (l.map IV.it) key = -1) := by unfold Hid; rw [HFI.out, HF.out]; rfl
   have HB9 := Lib.hid HB
   clear HB HF HFI
   go_wp2
   go_ret
   exact ⟨by rw [HE.out]; rfl, HB9.out⟩
  |succ k =>
   have hlt : k < l.length := by omega
   have e1 : (((k + 1 : Nat) : Int) - 1) = (k : Int) := by omega
   have b0 : (0 : Int) ≤ (k : Int) := by omega
   have b1 : (k : Int) < (l.length : Int) := by omega
   have hk0 : IntKind.i64.wrap ((k : Int) - 1) = (k : Int) - 1 := IntWalk.i64_in _ (by omega)
   rw [e1]
   obtain ⟨ad, hA, -, -⟩ := itsR_at (HL.out _ HB) hlt
   have HS := Lib.hid (fun W (h : Below w.heap.size w W) => And.intro ((itsR_at (HL.out W h) hlt).choose_spec) (And.intro (conv_str (c := l[k].kc) ((HL.out W h).2 l[k] (List.getElem_mem hlt)).key) (HC2.out W h)))
   have HT : Hid (findTo (l.map IV.it) key (k + 1) = if l[k].key = key then (k : Int) else findTo (l.map IV.it) key k) := by
    unfold Hid
    show (if _ then _ else _) = _
    rw [it_get l hlt]
   subst hA
   have HS2 : Hid (∀ W, Below w.heap.size w W → W.cell? (ad.add (k * 2)) = some (.slice l[k].kA l[k].key.length l[k].kc) ∧ (convert 37 9 (.slice l[k].kA l[k].key.length l[k].kc)).run Tryz.prog W = .ok (.string ⟨l[k].key.toArray⟩) W ∧ (convert 37 9 (.slice B key.length d)).run Tryz.prog W = .ok (.string ⟨key.toArray⟩) W) := fun W h => by
    obtain ⟨ad', e, h0, -⟩ := itsR_at (HL.out W h) hlt
    obtain rfl := Option.some.inj e
    exact ⟨h0, (HS.out W h).2⟩
   clear HS e1
   have HBB := Lib.hid HB
   generalize l[k].kA = kA at *
   generalize l[k].kc = kc at *
   generalize l[k].key = q at *
   obtain ⟨s1, hs1⟩ : ∃ s : ByteArray, (⟨q.toArray⟩ : ByteArray) = s := ⟨_, rfl⟩
   obtain ⟨s2, hs2⟩ : ∃ s : ByteArray, (⟨key.toArray⟩ : ByteArray) = s := ⟨_, rfl⟩
   have hl1 : s1.toList = q := by rw [← hs1]; exact bytes_list q
   have hl2 : s2.toList = key := by rw [← hs2]; exact bytes_list key
   rw [hs1, hs2] at HS2
   clear hs1 hs2
   by_cases hq : q = key
   ·have hc : (s1.toList == s2.toList) = true := by rw [hl1, hl2, hq]; simp
    have HE : Hid (findI (l.map IV.it) key = (k : Int)) := by unfold Hid; rw [HFI.out, HF.out, HT.out, if_pos hq]
    clear HF HT HFI hl1 hl2 hq HB HL HC2
    go_upto_region 4 with (fail)
    refine wp_region_held_drew (S := fun W => W.cell? (ad.add (k * 2)) = some (.slice kA q.length kc) ∧ (convert 37 9 (.slice kA q.length kc)).run Tryz.prog W = .ok (.string s1) W ∧ (convert 37 9 (.slice B key.length d)).run Tryz.prog W = .ok (.string s2) W) (by kernel_rfl) (HS2.out _ HBB.out.drew) (fun hHeld => ?_)
    refine tZ 0 ?_; refine tZ 1 ?_; refine tZ 2 ?_; refine tZ 3 ?_; refine tZ 4 ?_; refine tZ 5 ?_; refine tZ 6 ?_; refine tZ 7 ?_; refine tZ 8 ?_
    refine wpAnyH_done (by decide +kernel) ?_ _
    go_wp2
    go_ret
    exact ⟨by rw [HE.out]; rfl, HBB.out.drew⟩
   ·have hc : (s1.toList == s2.toList) = false := by rw [hl1, hl2]; simpa using hq
    have HE : Hid (findTo (l.map IV.it) key l.length = findTo (l.map IV.it) key k) := by unfold Hid; rw [HF.out, HT.out, if_neg hq]
    clear HF HT hl1 hl2 hq HB
    go_upto_region 4 with (fail)
    refine wp_region_held_drew (S := fun W => W.cell? (ad.add (k * 2)) = some (.slice kA q.length kc) ∧ (convert 37 9 (.slice kA q.length kc)).run Tryz.prog W = .ok (.string s1) W ∧ (convert 37 9 (.slice B key.length d)).run Tryz.prog W = .ok (.string s2) W) (by kernel_rfl) (HS2.out _ HBB.out.drew) (fun hHeld => ?_)
    refine tZ 0 ?_; refine tZ 1 ?_; refine tZ 2 ?_; refine tZ 3 ?_; refine tZ 4 ?_; refine tZ 5 ?_; refine tZ 6 ?_; refine tZ 7 ?_; refine tZ 8 ?_
    refine wpAnyH_done (by decide +kernel) ?_ _
    go_wp2
    go_roundg k
    case measure => have := HGK.out; omega
    case rel => exact ⟨k, by omega, rfl, rfl, HE.out, HBB.out.drew⟩
set_option maxRecDepth 100000 in
set_option maxHeartbeats 8000000 in
theorem ownR_any (l : List IV) (A : Option Addr) (c : Nat) (hn : l.length ≤ 100000) (hsz : ∀ x ∈ l, x.key.length ≤ 140737488355328 ∧ x.val.length ≤ 140737488355328) (w : World) (hl : ItsRd w A l) :
  Calls Tryz.prog 18 #[.slice A l.length c] w fun e w' => ∃ v, e = .returned v ∧ ItRow w v (l.map IV.it) w' := by
 have HL := Lib.hid (fun W (h : Below w.heap.size w W) => hl.on h)
 have HSZ := Lib.hid hsz
 clear hl hsz
 go_enter Tryz.func18, Tryz.ntmps18
 go_wp2_with fail
 go_loopg [3, 4] l.length (fun g v i wr => ∃ k : Nat, k ≤ l.length ∧ g = l.length - k ∧ i = .int .i64 (k : Int) ∧ ItRow w v ((l.take k).map IV.it) wr)
 case atStart => exact ⟨0, Nat.zero_le _, rfl, rfl, ItRow.nil (Below.refl _ _)⟩
 case round =>
  obtain ⟨k, hk, hgk, rfl, HV⟩ := hrel
  have HGK := Lib.hid hgk
  clear hgk
  by_cases hlt : k < l.length
  ·have b0 : (0 : Int) ≤ (k : Int) := by omega
   have b1 : (k : Int) < (l.length : Int) := by omega
   have hk0 : IntKind.i64.wrap ((k : Int) + 1) = (k : Int) + 1 := IntWalk.i64_in _ (by omega)
   obtain ⟨ad, hA, -, -⟩ := itsR_at (HL.out _ HV.below) hlt
   have hT : Hid ((l.take (k + 1)).map IV.it = (l.take k).map IV.it ++ [(l[k].key, l[k].val)]) := by unfold Hid; rw [List.take_succ_eq_append_getElem hlt, List.map_append]; rfl
   have hvl : Hid (((l.take k).map IV.it).length + 1 ≤ 1000000) := by unfold Hid; rw [List.length_map, List.length_take]; omega
   obtain ⟨z1, z2⟩ := HSZ.out l[k] (List.getElem_mem hlt)
   subst hA
   have hAt := (HL.out _ HV.below).2 l[k] (List.getElem_mem hlt)
   have HSX : Hid (∀ W, Below w.heap.size w W → W.cell? (ad.add (k * 2)) = some (.slice l[k].kA l[k].key.length l[k].kc) ∧ W.cell? ⟨(ad.add (k * 2)).block, (ad.add (k * 2)).off + 1, none⟩ = some (.slice l[k].vA l[k].val.length l[k].vc)) := fun W h => by
    obtain ⟨ad', e, h0, h1⟩ := itsR_at (HL.out W h) hlt
    obtain rfl := Option.some.inj e
    exact ⟨h0, h1⟩
   have HKB := Lib.hid (fun W (h : Below wr.heap.size wr W) => (hAt.on h).key)
   have HVB := Lib.hid (fun W (h : Below wr.heap.size wr W) => (hAt.on h).val)
   have HKN := Lib.hid hAt.kn
   have HVN := Lib.hid hAt.vn
   have HZ := Lib.hid (And.intro z1 z2)
   clear hAt z1 z2 HSZ
   generalize l[k].kA = kA at *
   generalize l[k].kc = kc at *
   generalize l[k].key = ky at *
   generalize l[k].vA = vA at *
   generalize l[k].vc = vc at *
   generalize l[k].val = vl at *
   go_upto_region 5 with (fail)
   have HVB0 := Lib.hid HV.below
   have HS := Lib.hid (fun W (h : Below wr.heap.size wr W) => HSX.out W (HVB0.out.trans (h.mono HVB0.out.size)))
   refine wp_region_held_drew (S := fun W => W.cell? (ad.add (k * 2)) = some (.slice kA ky.length kc) ∧ W.cell? ⟨(ad.add (k * 2)).block, (ad.add (k * 2)).off + 1, none⟩ = some (.slice vA vl.length vc)) (by kernel_rfl) (HS.out _ (Below.refl _ wr).drew) (fun hHeld => ?_)
   obtain ⟨u0, hu0⟩ : ∃ u, wr.drew = u := ⟨_, rfl⟩
   rw [hu0] at hHeld ⊢
   have Hu0 : Hid (Below wr.heap.size wr u0) := by rw [← hu0]; exact (Below.refl _ wr).drew
   obtain ⟨su0, hsu0⟩ : ∃ s, Hid (u0.heap.size = s) := ⟨_, Lib.hid rfl⟩
   clear hu0
   refine tZ 0 ?_; refine tZ 2 ?_; refine tZ 3 ?_; refine tZ 9 ?_; refine tZ 10 ?_; refine tZ 4 ?_; refine tZ 11 ?_; refine tZ 5 ?_; refine tZ 12 ?_; refine tZ 6 ?_; refine tZ 13 ?_
   refine wpAnyH_ready (rs := [1, 8]) (by decide +kernel) (by simp) ?_
   refine AllReadyH.cons rfl (fun K hK => ?_) (AllReadyH.cons rfl (fun K hK => ?_) AllReadyH.nil)
   ·skip
    (try simp only [jA, jB, jC])
    go_simp
    obtain ⟨u1, eu1⟩ : ∃ V, u0.alloc (Obj.cells #[] 5) = V := ⟨_, rfl⟩
    have hR1 := BRow.lit Hu0.out #[] ([] : List UInt8) rfl (by simp)
    rw [eu1] at hR1
    have hu1 := bZ eu1
    obtain ⟨su1, hsu1⟩ := sZ u1.heap.size
    have Nu1 := lZ eu1 hsu0 hsu1
    rw [eu1]
    rw [hsu0.out] at hR1 ⊢
    have F1 := fZ su0 (([] : List UInt8)).length (([] : List UInt8)).length
    clear eu1
    have Hu1 := Lib.hid (Hu0.out.trans (hu1.mono Hu0.out.size))
    clear hu1
    refine hK.out _ _ (HS.out _ Hu1.out) (fun hHeld => ?_)
    clear hK K
    (try simp only [Act.put, jA, jB, jC, jD, jE, jF])
    refine wpAnyH_ready (rs := [7, 8]) (by decide +kernel) (by simp) ?_
    refine AllReadyH.cons rfl (fun K hK => ?_) (AllReadyH.cons rfl (fun K hK => ?_) AllReadyH.nil)
    ·skip
     refine step_appR hR1 _ _ _ (HKB.out _ Hu1.out) HKN.out (by have := HZ.out.1; simp; omega) rfl _ _ rfl rfl rfl ?_
     rintro v7 u2 hR7 hg7 ho7
     replace hR7 : BRow wr v7 ky u2 := by have e := List.nil_append ky; rw [e] at hR7; exact hR7
     obtain ⟨su2, hsu2⟩ := sZ u2.heap.size
     have Nu2 := nZ hg7.size hsu1 hsu2
     rw [hsu1.out] at ho7
     have F7 := Lib.hid (app_block ho7 F1.out (fun k h => Nat.lt_of_lt_of_eq (hR7.2.lt k h).2 hsu2.out))
     clear hR1
     obtain ⟨A7, c7, rfl, -⟩ := hR7.byT
     have Hu2 := Lib.hid hR7.1
     clear hg7 ho7
     refine hK.out _ _ (HS.out _ Hu2.out) (fun hHeld => ?_)
     clear hK K
     (try simp only [Act.put, jA, jB, jC, jD, jE, jF])
     refine rZ 8 (fun K hK => ?_)
     (try simp only [jA, jB, jC])
     go_simp
     obtain ⟨u3, eu3⟩ : ∃ V, u2.alloc (Obj.cells #[] 5) = V := ⟨_, rfl⟩
     have hR8 := BRow.lit Hu2.out #[] ([] : List UInt8) rfl (by simp)
     rw [eu3] at hR8
     have hu3 := bZ eu3
     obtain ⟨su3, hsu3⟩ := sZ u3.heap.size
     have Nu3 := lZ eu3 hsu2 hsu3
     rw [eu3]
     rw [hsu2.out] at hR8 ⊢
     have F8 := fZ su2 (([] : List UInt8)).length (([] : List UInt8)).length
     clear eu3
     have Hu3 := Lib.hid (Hu2.out.trans (hu3.mono Hu2.out.size))
     replace hR7 := hR7.on hu3
     clear hu3
     refine hK.out _ _ (HS.out _ Hu3.out) (fun hHeld => ?_)
     clear hK K
     (try simp only [Act.put, jA, jB, jC, jD, jE, jF])
     refine rZ 14 (fun K hK => ?_)
     refine step_appR hR8 _ _ _ (HVB.out _ Hu3.out) HVN.out (by have := HZ.out.2; simp; omega) rfl _ _ rfl rfl rfl ?_
     rintro v14 u4 hR14 hg14 ho14
     replace hR14 : BRow wr v14 vl u4 := by have e := List.nil_append vl; rw [e] at hR14; exact hR14
     obtain ⟨su4, hsu4⟩ := sZ u4.heap.size
     have Nu4 := nZ hg14.size hsu3 hsu4
     rw [hsu3.out] at ho14
     have F14 := Lib.hid (app_block ho14 F8.out (fun k h => Nat.lt_of_lt_of_eq (hR14.2.lt k h).2 hsu4.out))
     replace hR7 := hR7.kept hg14 hR14.1 (apartO F7.out F8.out (fun k h1 h2 => by (try dsimp only at h1 h2); have := Nu1.out; have := Nu2.out; have := Nu3.out; have := Nu4.out; omega))
     clear hR8
     obtain ⟨A14, c14, rfl, -⟩ := hR14.byT
     have Hu4 := Lib.hid hR14.1
     clear hg14 ho14
     refine hK.out _ _ (HS.out _ Hu4.out) (fun hHeld => ?_)
     clear hK K
     (try simp only [Act.put, jA, jB, jC, jD, jE, jF])
     refine tZ 15 ?_
     refine rZ 16 (fun K hK => ?_)
     (try simp only [jA, jB, jC])
     go_simp
     obtain ⟨u5, eu5⟩ : ∃ V, u4.alloc (Obj.cells #[.slice A7 ky.length c7, .slice A14 vl.length c14] 39) = V := ⟨_, rfl⟩
     have hu5 := bZ eu5
     have hI16 := heap_alloc_new u4 (Obj.cells #[.slice A7 ky.length c7, .slice A14 vl.length c14] 39 (0, 0))
     rw [eu5] at hI16 ⊢
     obtain ⟨su5, hsu5⟩ := sZ u5.heap.size
     clear eu5
     have Hu5 := Lib.hid (Hu4.out.trans (hu5.mono Hu4.out.size))
     replace hR7 := hR7.on hu5
     replace hR14 := hR14.on hu5
     clear hu5
     refine hK.out _ _ (HS.out _ Hu5.out) (fun hHeld => ?_)
     clear hK K
     (try simp only [Act.put, jA, jB, jC, jD, jE, jF])
     refine rZ 17 (fun K hK => ?_)
     refine step_appI (HV.on Hu5.out) ⟨ky, A7, c7, vl, A14, c14⟩ (lone_it hR7.bt.1 hR7.bt.2.1 hR7.bt.2.2.1 hR7.bt.2.2.2 hR14.bt.1 hR14.bt.2.1 hR14.bt.2.2.1 hR14.bt.2.2.2) hI16 rfl hvl.out rfl _ _ rfl rfl _ rfl ?_; rintro v17 u6 hrow17 hk17
     refine hK.out _ _ (HSX.out _ hrow17.below) (fun hHeld => ?_)
     clear hK K
     (try simp only [Act.put, jA, jB, jC, jD, jE, jF])
     refine tZ 18 ?_
     refine wpAnyH_done (by decide +kernel) ?_ _
     clear hHeld
     go_wp2
     go_roundg (l.length - (k + 1))
     case measure => have := HGK.out; omega
     case rel => exact ⟨k + 1, by omega, rfl, by go_num, by rw [hT.out]; exact hrow17⟩
    ·skip
     (try simp only [jA, jB, jC])
     go_simp
     obtain ⟨u7, eu7⟩ : ∃ V, u1.alloc (Obj.cells #[] 5) = V := ⟨_, rfl⟩
     have hR8 := BRow.lit Hu1.out #[] ([] : List UInt8) rfl (by simp)
     rw [eu7] at hR8
     have hu7 := bZ eu7
     obtain ⟨su7, hsu7⟩ := sZ u7.heap.size
     have Nu7 := lZ eu7 hsu1 hsu7
     rw [eu7]
     rw [hsu1.out] at hR8 ⊢
     have F8 := fZ su1 (([] : List UInt8)).length (([] : List UInt8)).length
     clear eu7
     have Hu7 := Lib.hid (Hu1.out.trans (hu7.mono Hu1.out.size))
     replace hR1 := hR1.on hu7
     clear hu7
     refine hK.out _ _ (HS.out _ Hu7.out) (fun hHeld => ?_)
     clear hK K
     (try simp only [Act.put, jA, jB, jC, jD, jE, jF])
     refine rZ 7 (fun K hK => ?_)
     refine step_appR hR1 _ _ _ (HKB.out _ Hu7.out) HKN.out (by have := HZ.out.1; simp; omega) rfl _ _ rfl rfl rfl ?_
     rintro v7 u8 hR7 hg7 ho7
     replace hR7 : BRow wr v7 ky u8 := by have e := List.nil_append ky; rw [e] at hR7; exact hR7
     obtain ⟨su8, hsu8⟩ := sZ u8.heap.size
     have Nu8 := nZ hg7.size hsu7 hsu8
     rw [hsu7.out] at ho7
     have F7 := Lib.hid (app_block ho7 F1.out (fun k h => Nat.lt_of_lt_of_eq (hR7.2.lt k h).2 hsu8.out))
     replace hR8 := hR8.kept hg7 hR7.1 (apartO F8.out F1.out (fun k h1 h2 => by (try dsimp only at h1 h2); have := Nu1.out; have := Nu7.out; have := Nu8.out; omega))
     clear hR1
     obtain ⟨A7, c7, rfl, -⟩ := hR7.byT
     have Hu8 := Lib.hid hR7.1
     clear hg7 ho7
     refine hK.out _ _ (HS.out _ Hu8.out) (fun hHeld => ?_)
     clear hK K
     (try simp only [Act.put, jA, jB, jC, jD, jE, jF])
     refine rZ 14 (fun K hK => ?_)
     refine step_appR hR8 _ _ _ (HVB.out _ Hu8.out) HVN.out (by have := HZ.out.2; simp; omega) rfl _ _ rfl rfl rfl ?_
     rintro v14 u9 hR14 hg14 ho14
     replace hR14 : BRow wr v14 vl u9 := by have e := List.nil_append vl; rw [e] at hR14; exact hR14
     obtain ⟨su9, hsu9⟩ := sZ u9.heap.size
     have Nu9 := nZ hg14.size hsu8 hsu9
     rw [hsu8.out] at ho14
     have F14 := Lib.hid (app_block ho14 F8.out (fun k h => Nat.lt_of_lt_of_eq (hR14.2.lt k h).2 hsu9.out))
     replace hR7 := hR7.kept hg14 hR14.1 (apartO F7.out F8.out (fun k h1 h2 => by (try dsimp only at h1 h2); have := Nu1.out; have := Nu7.out; have := Nu8.out; have := Nu9.out; omega))
     clear hR8
     obtain ⟨A14, c14, rfl, -⟩ := hR14.byT
     have Hu9 := Lib.hid hR14.1
     clear hg14 ho14
     refine hK.out _ _ (HS.out _ Hu9.out) (fun hHeld => ?_)
     clear hK K
     (try simp only [Act.put, jA, jB, jC, jD, jE, jF])
     refine tZ 15 ?_
     refine rZ 16 (fun K hK => ?_)
     (try simp only [jA, jB, jC])
     go_simp
     obtain ⟨u10, eu10⟩ : ∃ V, u9.alloc (Obj.cells #[.slice A7 ky.length c7, .slice A14 vl.length c14] 39) = V := ⟨_, rfl⟩
     have hu10 := bZ eu10
     have hI16 := heap_alloc_new u9 (Obj.cells #[.slice A7 ky.length c7, .slice A14 vl.length c14] 39 (0, 0))
     rw [eu10] at hI16 ⊢
     obtain ⟨su10, hsu10⟩ := sZ u10.heap.size
     clear eu10
     have Hu10 := Lib.hid (Hu9.out.trans (hu10.mono Hu9.out.size))
     replace hR7 := hR7.on hu10
     replace hR14 := hR14.on hu10
     clear hu10
     refine hK.out _ _ (HS.out _ Hu10.out) (fun hHeld => ?_)
     clear hK K
     (try simp only [Act.put, jA, jB, jC, jD, jE, jF])
     refine rZ 17 (fun K hK => ?_)
     refine step_appI (HV.on Hu10.out) ⟨ky, A7, c7, vl, A14, c14⟩ (lone_it hR7.bt.1 hR7.bt.2.1 hR7.bt.2.2.1 hR7.bt.2.2.2 hR14.bt.1 hR14.bt.2.1 hR14.bt.2.2.1 hR14.bt.2.2.2) hI16 rfl hvl.out rfl _ _ rfl rfl _ rfl ?_; rintro v17 u11 hrow17 hk17
     refine hK.out _ _ (HSX.out _ hrow17.below) (fun hHeld => ?_)
     clear hK K
     (try simp only [Act.put, jA, jB, jC, jD, jE, jF])
     refine tZ 18 ?_
     refine wpAnyH_done (by decide +kernel) ?_ _
     clear hHeld
     go_wp2
     go_roundg (l.length - (k + 1))
     case measure => have := HGK.out; omega
     case rel => exact ⟨k + 1, by omega, rfl, by go_num, by rw [hT.out]; exact hrow17⟩
   ·skip
    (try simp only [jA, jB, jC])
    go_simp
    obtain ⟨u12, eu12⟩ : ∃ V, u0.alloc (Obj.cells #[] 5) = V := ⟨_, rfl⟩
    have hR8 := BRow.lit Hu0.out #[] ([] : List UInt8) rfl (by simp)
    rw [eu12] at hR8
    have hu12 := bZ eu12
    obtain ⟨su12, hsu12⟩ := sZ u12.heap.size
    have Nu12 := lZ eu12 hsu0 hsu12
    rw [eu12]
    rw [hsu0.out] at hR8 ⊢
    have F8 := fZ su0 (([] : List UInt8)).length (([] : List UInt8)).length
    clear eu12
    have Hu12 := Lib.hid (Hu0.out.trans (hu12.mono Hu0.out.size))
    clear hu12
    refine hK.out _ _ (HS.out _ Hu12.out) (fun hHeld => ?_)
    clear hK K
    (try simp only [Act.put, jA, jB, jC, jD, jE, jF])
    refine rZ 1 (fun K hK => ?_)
    (try simp only [jA, jB, jC])
    go_simp
    obtain ⟨u13, eu13⟩ : ∃ V, u12.alloc (Obj.cells #[] 5) = V := ⟨_, rfl⟩
    have hR1 := BRow.lit Hu12.out #[] ([] : List UInt8) rfl (by simp)
    rw [eu13] at hR1
    have hu13 := bZ eu13
    obtain ⟨su13, hsu13⟩ := sZ u13.heap.size
    have Nu13 := lZ eu13 hsu12 hsu13
    rw [eu13]
    rw [hsu12.out] at hR1 ⊢
    have F1 := fZ su12 (([] : List UInt8)).length (([] : List UInt8)).length
    clear eu13
    have Hu13 := Lib.hid (Hu12.out.trans (hu13.mono Hu12.out.size))
    replace hR8 := hR8.on hu13
    clear hu13
    refine hK.out _ _ (HS.out _ Hu13.out) (fun hHeld => ?_)
    clear hK K
    (try simp only [Act.put, jA, jB, jC, jD, jE, jF])
    refine rZ 7 (fun K hK => ?_)
    refine step_appR hR1 _ _ _ (HKB.out _ Hu13.out) HKN.out (by have := HZ.out.1; simp; omega) rfl _ _ rfl rfl rfl ?_
    rintro v7 u14 hR7 hg7 ho7
    replace hR7 : BRow wr v7 ky u14 := by have e := List.nil_append ky; rw [e] at hR7; exact hR7
    obtain ⟨su14, hsu14⟩ := sZ u14.heap.size
    have Nu14 := nZ hg7.size hsu13 hsu14
    rw [hsu13.out] at ho7
    have F7 := Lib.hid (app_block ho7 F1.out (fun k h => Nat.lt_of_lt_of_eq (hR7.2.lt k h).2 hsu14.out))
    replace hR8 := hR8.kept hg7 hR7.1 (apartO F8.out F1.out (fun k h1 h2 => by (try dsimp only at h1 h2); have := Nu12.out; have := Nu13.out; have := Nu14.out; omega))
    clear hR1
    obtain ⟨A7, c7, rfl, -⟩ := hR7.byT
    have Hu14 := Lib.hid hR7.1
    clear hg7 ho7
    refine hK.out _ _ (HS.out _ Hu14.out) (fun hHeld => ?_)
    clear hK K
    (try simp only [Act.put, jA, jB, jC, jD, jE, jF])
    refine rZ 14 (fun K hK => ?_)
    refine step_appR hR8 _ _ _ (HVB.out _ Hu14.out) HVN.out (by have := HZ.out.2; simp; omega) rfl _ _ rfl rfl rfl ?_
    rintro v14 u15 hR14 hg14 ho14
    replace hR14 : BRow wr v14 vl u15 := by have e := List.nil_append vl; rw [e] at hR14; exact hR14
    obtain ⟨su15, hsu15⟩ := sZ u15.heap.size
    have Nu15 := nZ hg14.size hsu14 hsu15
    rw [hsu14.out] at ho14
    have F14 := Lib.hid (app_block ho14 F8.out (fun k h => Nat.lt_of_lt_of_eq (hR14.2.lt k h).2 hsu15.out))
    replace hR7 := hR7.kept hg14 hR14.1 (apartO F7.out F8.out (fun k h1 h2 => by (try dsimp only at h1 h2); have := Nu12.out; have := Nu13.out; have := Nu14.out; have := Nu15.out; omega))
    clear hR8
    obtain ⟨A14, c14, rfl, -⟩ := hR14.byT
    have Hu15 := Lib.hid hR14.1
    clear hg14 ho14
    refine hK.out _ _ (HS.out _ Hu15.out) (fun hHeld => ?_)
    clear hK K
    (try simp only [Act.put, jA, jB, jC, jD, jE, jF])
    refine tZ 15 ?_
    refine rZ 16 (fun K hK => ?_)
    (try simp only [jA, jB, jC])
    go_simp
    obtain ⟨u16, eu16⟩ : ∃ V, u15.alloc (Obj.cells #[.slice A7 ky.length c7, .slice A14 vl.length c14] 39) = V := ⟨_, rfl⟩
    have hu16 := bZ eu16
    have hI16 := heap_alloc_new u15 (Obj.cells #[.slice A7 ky.length c7, .slice A14 vl.length c14] 39 (0, 0))
    rw [eu16] at hI16 ⊢
    obtain ⟨su16, hsu16⟩ := sZ u16.heap.size
    clear eu16
    have Hu16 := Lib.hid (Hu15.out.trans (hu16.mono Hu15.out.size))
    replace hR7 := hR7.on hu16
    replace hR14 := hR14.on hu16
    clear hu16
    refine hK.out _ _ (HS.out _ Hu16.out) (fun hHeld => ?_)
    clear hK K
    (try simp only [Act.put, jA, jB, jC, jD, jE, jF])
    refine rZ 17 (fun K hK => ?_)
    refine step_appI (HV.on Hu16.out) ⟨ky, A7, c7, vl, A14, c14⟩ (lone_it hR7.bt.1 hR7.bt.2.1 hR7.bt.2.2.1 hR7.bt.2.2.2 hR14.bt.1 hR14.bt.2.1 hR14.bt.2.2.1 hR14.bt.2.2.2) hI16 rfl hvl.out rfl _ _ rfl rfl _ rfl ?_; rintro v17 u17 hrow17 hk17
    refine hK.out _ _ (HSX.out _ hrow17.below) (fun hHeld => ?_)
    clear hK K
    (try simp only [Act.put, jA, jB, jC, jD, jE, jF])
    refine tZ 18 ?_
    refine wpAnyH_done (by decide +kernel) ?_ _
    clear hHeld
    go_wp2
    go_roundg (l.length - (k + 1))
    case measure => have := HGK.out; omega
    case rel => exact ⟨k + 1, by omega, rfl, by go_num, by rw [hT.out]; exact hrow17⟩
  ·obtain rfl : k = l.length := by omega
   rw [List.take_length] at HV
   have HK := Lib.hid HV
   clear HV
   go_wp2
   go_ret
   exact ⟨_, rfl, HK.out⟩
end Go.Proofs.YtoiamjglklgcdaaGreat

namespace Go.Proofs.YtoiamjglklgcdaaGreat

def lastIt : List Itm → List UInt8 → Option (List UInt8)
 |[], _ => none
 |x :: l, z => (lastIt l z).or (if x.1 = z then some x.2 else none)
theorem lastIt_append (l : List Itm) (x : Itm) (z : List UInt8) : lastIt (l ++ [x]) z = if x.1 = z then some x.2 else lastIt l z := by
 induction l with
 |nil => simp [lastIt]
 |cons y l ih =>
  rw [List.cons_append, lastIt, ih, lastIt]
  by_cases h : x.1 = z
  ·simp [h]
  ·simp [h]
theorem kS_eq (x : IV) (z : List UInt8) : x.kS = ⟨z.toArray⟩ ↔ x.key = z := by
 unfold IV.kS
 rw [ByteArray.mk.injEq]
 exact ⟨fun h => by simpa using congrArg Array.toList h, fun h => by rw [h]⟩
theorem lastV_it (l : List IV) (z : List UInt8) : lastV l z = lastIt (l.map IV.it) z := by
 unfold lastV
 induction l with
 |nil => rfl
 |cons x l ih =>
  rw [lastOf, List.map_cons, lastIt, ← ih]
  cases h : lastOf l ⟨z.toArray⟩ with
  |some y => rfl
  |none =>
   by_cases e : x.key = z
   ·rw [if_pos ((kS_eq x z).2 e)]
    simp [IV.it, e]
   ·rw [if_neg (fun h => e ((kS_eq x z).1 h))]
    simp [IV.it, e]
theorem findTo_append (l m : List Itm) (z : List UInt8) : ∀ n, n ≤ l.length → findTo (l ++ m) z n = findTo l z n
 |0, _ => rfl
 |n + 1, h => by
  unfold findTo
  rw [findTo_append l m z n (by omega)]
  have e : (l ++ m).getD n ([], []) = l.getD n ([], []) := by
   rw [List.getD_eq_getElem?_getD, List.getD_eq_getElem?_getD, List.getElem?_append_left (by omega)]
  rw [e]
theorem find_last (L : List Itm) (z : List UInt8) : (∃ k : Nat, findI L z = (k : Int) ∧ ∃ h : k < L.length, L[k].1 = z ∧ lastIt L z = some L[k].2) ∨ (findI L z = -1 ∧ lastIt L z = none) := by
 suffices h : ∀ (M : List Itm), (∃ k : Nat, findI M.reverse z = (k : Int) ∧ ∃ h : k < M.reverse.length, M.reverse[k].1 = z ∧ lastIt M.reverse z = some M.reverse[k].2) ∨ (findI M.reverse z = -1 ∧ lastIt M.reverse z = none) by
  have := h L.reverse
  rwa [List.reverse_reverse] at this
 intro M
 induction M with
 |nil => exact .inr ⟨rfl, rfl⟩
 |cons x M ih =>
  rw [List.reverse_cons]
  have e1 : findI (M.reverse ++ [x]) z = if x.1 = z then (M.reverse.length : Int) else findI M.reverse z := by
   unfold findI
   rw [List.length_append, List.length_singleton]
   show (if _ then _ else _) = _
   rw [findTo_append _ _ _ _ (Nat.le_refl _)]
   have e : (M.reverse ++ [x]).getD M.reverse.length ([], []) = x := by simp [List.getD_eq_getElem?_getD]
   rw [e]
  rw [e1, lastIt_append]
  by_cases hx : x.1 = z
  ·rw [if_pos hx, if_pos hx]
   exact .inl ⟨M.reverse.length, rfl, by simp, by simpa using hx, by simp⟩
  ·rw [if_neg hx, if_neg hx]
   rcases ih with ⟨k, h1, h2, h3, h4⟩ | ⟨h1, h2⟩
   ·refine .inl ⟨k, h1, by rw [List.length_append]; omega, ?_, ?_⟩
    ·rw [List.getElem_append_left h2]; exact h3
    ·rw [List.getElem_append_left h2]; exact h4
   ·exact .inr ⟨h1, h2⟩
def isLast (L : List Itm) (i : Nat) : Bool := decide (findI L (L.getD i ([], [])).1 = (i : Int))
def cntL (L : List Itm) (p : List UInt8 → Bool) (i : Nat) : Nat := ((List.range i).filter fun i => isLast L i && p (L.getD i ([], [])).1).length
theorem cntL_next (L : List Itm) (p : List UInt8 → Bool) (i : Nat) : cntL L p (i + 1) = cntL L p i + if (isLast L i && p (L.getD i ([], [])).1) = true then 1 else 0 := by
 unfold cntL
 rw [List.range_succ, List.filter_append, List.length_append]
 congr 1
 rw [List.filter_cons]
 split <;> rfl
theorem cntL_le (L : List Itm) (p : List UInt8 → Bool) (i : Nat) : cntL L p i ≤ i := by
 have := List.length_filter_le (fun i => isLast L i && p (L.getD i ([], [])).1) (List.range i)
 rw [List.length_range] at this
 exact this
theorem getD_at {L : List Itm} {i : Nat} (h : i < L.length) : L.getD i ([], []) = L[i] := by
 rw [List.getD_eq_getElem?_getD, List.getElem?_eq_getElem h]; rfl
theorem cnt_all (L : List Itm) (zs : List (List UInt8)) (hnd : zs.Nodup) (hm : ∀ z, z ∈ zs ↔ (lastIt L z).isSome = true) (p : List UInt8 → Bool) : cntL L p L.length = (zs.filter p).length := by
 have hk : (((List.range L.length).filter fun i => isLast L i && p (L.getD i ([], [])).1).map fun i => (L.getD i ([], [])).1).Perm (zs.filter p) := by
  refine (List.perm_ext_iff_of_nodup ?_ (hnd.filter _)).2 fun z => ?_
  ·unfold List.Nodup
   rw [List.pairwise_map]
   have h0 : ((List.range L.length).filter fun i => isLast L i && p (L.getD i ([], [])).1).Pairwise (fun a b => a < b ∧ isLast L a = true ∧ isLast L b = true) := by
    refine List.pairwise_filter.2 (List.pairwise_lt_range.imp fun h h1 h2 => ?_)
    simp only [Bool.and_eq_true] at h1 h2
    exact ⟨h, h1.1, h2.1⟩
   refine h0.imp fun {a b} ⟨hab, h1, h2⟩ e => ?_
   unfold isLast at h1 h2
   rw [decide_eq_true_eq] at h1 h2
   rw [e, h2] at h1
   omega
  ·rw [List.mem_map, List.mem_filter]
   constructor
   ·rintro ⟨i, hi, rfl⟩
    rw [List.mem_filter, List.mem_range, Bool.and_eq_true] at hi
    refine ⟨(hm _).2 ?_, hi.2.2⟩
    have h1 := hi.2.1
    unfold isLast at h1
    rw [decide_eq_true_eq] at h1
    rcases find_last L (L.getD i ([], [])).1 with ⟨k, _, h2, _, h⟩ | ⟨h, -⟩
    ·rw [h]; rfl
    ·rw [h1] at h; omega
   ·rintro ⟨hz, hp⟩
    rcases find_last L z with ⟨k, h1, h2, h3, -⟩ | ⟨-, h2⟩
    ·refine ⟨k, ?_, by rw [getD_at h2, h3]⟩
     rw [List.mem_filter, List.mem_range, getD_at h2, h3, Bool.and_eq_true]
     refine ⟨h2, ?_, hp⟩
     unfold isLast
     rw [decide_eq_true_eq, getD_at h2, h3, h1]
    ·have := (hm z).1 hz
     rw [h2] at this
     cases this
 have := hk.length_eq
 rw [List.length_map] at this
 exact this
def putI (La Lb : List Itm) (zs : List (List UInt8)) : List Itm := zs.filterMap fun z => match lastIt Lb z with
 |some v => if lastIt La z = some v then none else some (z, v)
 |none => none
theorem putD_it (l1 l2 : List IV) (zs : List (List UInt8)) : putD l1 l2 zs = putI (l1.map IV.it) (l2.map IV.it) zs := by
 unfold putD putI
 congr 1
 funext z
 rw [lastV_it, lastV_it] <;> rfl
def wantB (La Lb : List Itm) (z : List UInt8) : Bool := decide (lastIt La z ≠ lastIt Lb z)
theorem putI_keys {La Lb : List Itm} : ∀ {zs : List (List UInt8)}, (∀ z ∈ zs, (lastIt Lb z).isSome = true) → (putI La Lb zs).map Prod.fst = zs.filter (wantB La Lb)
 |[], _ => rfl
 |z :: zs, h => by
  have ih := putI_keys (La := La) (fun z hz => h z (List.mem_cons_of_mem _ hz))
  obtain ⟨v, hv⟩ := Option.isSome_iff_exists.1 (h z (List.mem_cons_self ..))
  unfold putI at ih ⊢
  rw [List.filterMap_cons, List.filter_cons]
  simp only [hv, wantB]
  by_cases e : lastIt La z = some v
  ·simp [e, ih]
  ·simp [e]
   exact ih
theorem mem_putI {La Lb : List Itm} {zs : List (List UInt8)} {x : Itm} : x ∈ putI La Lb zs ↔ x.1 ∈ zs ∧ lastIt Lb x.1 = some x.2 ∧ lastIt La x.1 ≠ some x.2 := by
 unfold putI
 rw [List.mem_filterMap]
 constructor
 ·rintro ⟨z, hz, h⟩
  cases hv : lastIt Lb z with
  |none => simp [hv] at h
  |some v =>
   simp only [hv] at h
   by_cases e : lastIt La z = some v
   ·simp [e] at h
   ·simp only [e, if_false, Option.some.injEq] at h
    subst h
    exact ⟨hz, hv, e⟩
 ·rintro ⟨h1, h2, h3⟩
  exact ⟨x.1, h1, by simp [h2, h3]⟩
theorem lastIt_none : ∀ {L : List Itm} {z : List UInt8}, lastIt L z = none → ∀ x ∈ L, x.1 ≠ z
 |y :: L, z, h, x, hx => by
  rw [lastIt] at h
  cases h1 : lastIt L z with
  |some v => rw [h1] at h; cases h
  |none =>
   rw [h1] at h
   rcases List.mem_cons.1 hx with rfl | hx
   ·intro e
    simp [e] at h
   ·exact lastIt_none h1 x hx
theorem put_find {La Lb : List Itm} {zs : List (List UInt8)} {z v : List UInt8} (hz : z ∈ zs) (h2 : lastIt Lb z = some v) (h1 : lastIt La z ≠ some v) : ∃ m : Nat, findI (putI La Lb zs) z = (m : Int) ∧ ∃ h : m < (putI La Lb zs).length, (putI La Lb zs)[m] = (z, v) := by
 rcases find_last (putI La Lb zs) z with ⟨k, e1, hk, e2, -⟩ | ⟨-, e⟩
 ·have hm := mem_putI.1 (List.getElem_mem hk)
  rw [e2, h2] at hm
  exact ⟨k, e1, hk, Prod.ext e2 (Option.some.inj hm.2.1).symm⟩
 ·exact absurd rfl (lastIt_none e (z, v) (mem_putI.2 ⟨hz, h2, h1⟩))
theorem put_not {La Lb : List Itm} {zs : List (List UInt8)} {z v : List UInt8} (h2 : lastIt Lb z = some v) (h1 : lastIt La z = some v) : findI (putI La Lb zs) z = -1 := by
 rcases find_last (putI La Lb zs) z with ⟨k, e1, hk, e2, -⟩ | ⟨e, -⟩
 ·have hm := mem_putI.1 (List.getElem_mem hk)
  rw [e2, h2] at hm
  rw [← hm.2.1] at hm
  exact absurd h1 hm.2.2
 ·exact e
theorem putI_lt {La Lb : List Itm} {zs : List (List UInt8)} (h : zs.Pairwise (fun a b => bl a b = true)) : (putI La Lb zs).Pairwise KeyLt := by
 unfold putI
 rw [List.pairwise_filterMap]
 refine h.imp fun {x y} hxy p hp q hq => ?_
 have e1 : p.1 = x := by
  revert hp
  cases lastIt Lb x with
  |none => exact fun h => by cases h
  |some v => simp only; split <;> intro h <;> cases h; rfl
 have e2 : q.1 = y := by
  revert hq
  cases lastIt Lb y with
  |none => exact fun h => by cases h
  |some v => simp only; split <;> intro h <;> cases h; rfl
 show bl p.1 q.1 = true
 rw [e1, e2]; exact hxy
theorem goneL_it (l2 : List IV) (zs : List (List UInt8)) : goneL l2 zs = zs.filter fun z => (lastIt (l2.map IV.it) z).isNone := by
 unfold goneL
 congr 1
 funext z
 rw [lastV_it]
theorem bl_nodup {zs : List (List UInt8)} (h : zs.Pairwise (fun a b => bl a b = true)) : zs.Nodup := h.imp fun h e => by
 rw [e, bl_irrefl] at h
 cases h
end Go.Proofs.YtoiamjglklgcdaaGreat
