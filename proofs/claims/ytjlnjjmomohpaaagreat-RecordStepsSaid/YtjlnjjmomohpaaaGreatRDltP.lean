/- Layer record: Delta, what makes one list of items of another. -/
import Derived.Test.YtjlnjjmomohpaaaGreatRKeys
import Derived.Test.YtjlnjjmomohpaaaGreatRSame
namespace Go.Proofs.YtjlnjjmomohpaaaGreat
open Go.RowKit Go.Lib

theorem RowI.base8 {α : Type} {T' : TypeId} {n : Nat} {enc : α → List Value} {w w1 W : World} {v : Value} {l : List α} (h : RowI w1 T' n enc v l W) (hb : Below w.heap.size w w1) : RowI w T' n enc v l W :=
 ⟨Below.trans hb (h.1.mono hb.size), h.2.1, h.2.2.imp id (fun ⟨g, cap, cur, e, hg, r⟩ => ⟨g, cap, cur, e, Nat.le_trans hb.size hg, r⟩)⟩
section
variable {α β : Type} {T : TypeId} {ek : α → Value} {ev : β → Value} {Ok : α → Prop} {W : World} {b : Nat} {l : List (α × β)} {ops : Array Oper} {rest : List Oper} {o : Oper} {a : Act} {Q : Exit → Act → World → Prop}
theorem wp_look1 (hg : o.guard = none) (m x : Operand) (t : TypeId) (hop : o.op = Op.lookup t m x false) (e : TypeId) (K : KeyK T ek Ok) (ht : Tryz.prog.underlying t = some (.map T e)) {z : β} (hz : (zeroValue e).run Tryz.prog W = .ok (ev z) W) (b : Nat)
  (hm : a.eval m = .map (some b)) (h : MapIs W b ek ev Ok l) {k : α} (hk : Ok k) (hx : a.eval x = ek k)
  (hK : ∀ r, Got l z k r → wpList Tryz.prog ops Q rest (a.put o.dst (ev r.1)) W) : wpList Tryz.prog ops Q (o :: rest) a W := by
 refine wpList_plain hg fun K' hK' => ?_
 obtain ⟨r, hr, _, hrun⟩ := h.look K ht hz hk
 unfold Oper.wp
 simp [execOp, hop, hm, hx, hrun, Result.andThen]
 exact hK' _ _ (hK r hr)
end
def lastV (l : List IV) (z : List UInt8) : Option (List UInt8) := (lastOf l ⟨z.toArray⟩).map IV.val
theorem Lasts.got {w0 W : World} {b : Nat} {l : List IV} {L : List (ByteArray × IV)} (h : Lasts w0 W b l L) {s : ByteArray} {r : IV × Bool} (hr : Got L noIt s r) : (lastOf l s = none ∧ r = (noIt, false)) ∨ (∃ x, lastOf l s = some x ∧ r = (x, true)) := by
 rcases hr with ⟨h1, h2⟩ | ⟨h1, h2⟩
 ·refine .inl ⟨?_, h2⟩
  cases h3 : lastOf l s with
  |none => rfl
  |some x => exact absurd (List.mem_map_of_mem (f := Prod.fst) ((h.tell s x).2 h3)) h1
 ·exact .inr ⟨r.1, (h.tell s r.1).1 h2, Prod.ext rfl h1⟩
theorem Lasts.no {w0 W : World} {b : Nat} {l : List IV} {L : List (ByteArray × IV)} (h : Lasts w0 W b l L) {s : ByteArray} {r : IV × Bool} (hr : Got L noIt s r) (h0 : lastOf l s = none) : r = (noIt, false) := by
 rcases h.got hr with ⟨-, h2⟩ | ⟨x, h1, -⟩
 ·exact h2
 ·rw [h0] at h1; cases h1
theorem Lasts.yes {w0 W : World} {b : Nat} {l : List IV} {L : List (ByteArray × IV)} (h : Lasts w0 W b l L) {s : ByteArray} {r : IV × Bool} (hr : Got L noIt s r) {x : IV} (h0 : lastOf l s = some x) : r = (x, true) := by
 rcases h.got hr with ⟨h1, -⟩ | ⟨y, h1, h2⟩
 ·rw [h0] at h1; cases h1
 ·rw [h0] at h1; cases h1; exact h2
theorem Lasts.on {w0 W W' : World} {b : Nat} {l : List IV} {L : List (ByteArray × IV)} (h : Lasts w0 W b l L) (hb : Below W.heap.size W W') : Lasts w0 W' b l L :=
 ⟨h.map.on hb h.map.lt, h.tell, h.few, h.new, h.below.trans (hb.mono h.below.size)⟩
theorem Lasts.look1 {w0 W : World} {b : Nat} {l : List IV} {L : List (ByteArray × IV)} (h : Lasts w0 W b l L) {s : ByteArray} (hs : OkS s) {x : IV} (h0 : lastOf l s = some x) :
  (Instr.lookup 96 (.map (some b)) (.string s) false).run Tryz.prog W = .ok (.agg #[.slice x.kA x.key.length x.kc, .slice x.vA x.val.length x.vc]) W := by
 obtain ⟨r, hr, -, h2⟩ := h.map.look keyS Tryz.underlying96 (zeroIt W) hs
 obtain rfl := h.yes hr h0
 exact h2
def putD (l1 l2 : List IV) (zs : List (List UInt8)) : List Itm := zs.filterMap fun z => match lastV l2 z with
 |some v => if lastV l1 z = some v then none else some (z, v)
 |none => none
def goneL (l2 : List IV) (zs : List (List UInt8)) : List (List UInt8) := zs.filter fun z => (lastV l2 z).isNone
def StrsAt (W : World) (v : Value) (zs : List (List UInt8)) : Prop := ∃ A c, v = .slice A zs.length c ∧ ∀ k (h : k < zs.length), ∃ ad, A = some ad ∧ ∀ W', Below W.heap.size W W' → W'.cell? (ad.add k) = some (.string ⟨zs[k].toArray⟩)
set_option maxHeartbeats 1000000 in
theorem keysOf_any {w0 : World} {b : Nat} {l : List IV} {L : List (ByteArray × IV)} (hL : l.length ≤ 1000000) (w : World) (Bm : Nat) (hBm : Bm < w.heap.size) (hm : w.cell? ⟨Bm, 0, none⟩ = some (.map (some b))) (h : Lasts w0 w b l L) :
  Calls Tryz.prog 52 #[.func (.func 91) #[] #[.pointer (some ⟨Bm, 0, none⟩)]] w fun e w' => ∃ (zs : List (List UInt8)) (v : Value), e = .returned v ∧ StrsAt w' v zs ∧ zs.Pairwise (fun a b => bl a b = true) ∧ (∀ z, z ∈ zs ↔ (lastV l z).isSome = true) ∧ zs.length ≤ l.length ∧ Below w.heap.size w w' := by
 refine (sortedS_any Bm b L (by have := h.few; omega) w hBm hm h.map).mono ?_
 rintro e w' ⟨zs, hp, hs, hr⟩
 have hmem : ∀ z, z ∈ zs ↔ (lastV l z).isSome = true := fun z => by
  rw [hp.mem_iff, List.mem_map]
  unfold lastV
  rw [Option.isSome_map]
  constructor
  ·rintro ⟨⟨s, x⟩, hx, rfl⟩
   have := (h.tell s x).1 hx
   have e : (⟨(bsL s).toArray⟩ : ByteArray) = s := by cases s; simp [bsL]
   simp only
   rw [e, this]; rfl
  ·intro hz
   obtain ⟨x, hx⟩ := Option.isSome_iff_exists.1 hz
   exact ⟨(_, x), (h.tell _ x).2 hx, by simp [bsL]⟩
 have hlen : zs.length ≤ l.length := by
  have := hp.length_eq
  rw [List.length_map] at this
  have := h.few
  omega
 rcases hr with ⟨rfl, rfl, hb⟩ | ⟨g, cap, rfl, -, -, hr⟩
 ·exact ⟨[], _, rfl, ⟨none, 0, rfl, fun k hk => absurd hk (by simp)⟩, hs, hmem, hlen, hb⟩
 ·refine ⟨zs, _, rfl, ⟨some ⟨g, 0, none⟩, cap, rfl, fun k hk => ⟨_, rfl, fun W' hb => ?_⟩⟩, hs, hmem, hlen, hr.1⟩
  have := (hr.on hb).2.2.2 k (by simpa using hk)
  rw [Nat.zero_add] at this
  rw [show (Addr.add ⟨g, 0, none⟩ k) = ⟨g, k, none⟩ by simp [Addr.add]; exact fun h => h.symm]
  rw [this.1]
  simp [hk]
theorem run_val (p q : Option Addr) (n c m d : Nat) (W : World) : (Instr.field 39 (.agg #[.slice p n c, .slice q m d]) 1).run Tryz.prog W = .ok (.slice q m d) W := by kernel_rfl
theorem conv_own3 (W : World) (q : List UInt8) (hs : q.length ≤ maxLen) : ∃ W1 cap, (convert 9 37 (.string ⟨q.toArray⟩)).run Tryz.prog W = .ok (.slice (some ⟨W.heap.size, 0, none⟩) q.length cap) W1 ∧ Below W.heap.size W W1 ∧
  ByT W1 (some ⟨W.heap.size, 0, none⟩) q ∧ q.length ≤ cap ∧ cap ≤ maxLen := by
 have e : (⟨q.toArray⟩ : ByteArray).size = q.length := by simp [ByteArray.size]
 have hge : (⟨q.toArray⟩ : ByteArray).size ≤ grownCap W (⟨q.toArray⟩ : ByteArray).size 0 5 := Go.grownCap_ge _ _ _ _
 refine ⟨_, _, by rw [← e]; exact Go.run_bytes_of_string (P := Tryz.prog) W 9 37 5 ⟨q.toArray⟩ Tryz.underlying9 Tryz.underlying37 Tryz.underlying5, ((Below.refl _ W).drew).alloc (Nat.le_refl _) _, fun h0 => ⟨W.heap.size, 0, _, _, rfl, heap_alloc_new W.drew _, fun i hi => ?_⟩, by rw [← e]; exact hge, Go.grownCap_le_maxLen W _ 0 5 (by rw [e]; exact hs)⟩
 rw [Nat.zero_add, Go.bytesRow_at _ _ i (by simpa using hi)]
 simp [List.getD_eq_getElem?_getD, List.getElem?_eq_getElem hi]
structure KV where
 A : Option Addr
 c : Nat
 key : List UInt8
def encK (x : KV) : List Value := [.slice x.A x.key.length x.c]
theorem kindK : Kind 37 encK 1 24 := Kind.mk' (z := .slice none 0 0) (fun _ => rfl) (fun a u hu => by
 simp only [encK, List.mem_cons, List.not_mem_nil, or_false] at hu
 subst hu; rfl) (by decide) (by kernel_rfl) rfl
def KAt (W : World) (x : KV) : Prop := ByT W x.A x.key ∧ x.key.length ≤ x.c ∧ x.c ≤ maxLen
theorem KAt.keep {W W' : World} {x : KV} {T : TypeId} (h : KAt W x) (hk : KeepT T W W') (hT : 5 ≠ T) : KAt W' x := ⟨h.1.keep hk hT, h.2⟩
theorem KAt.on {W W' : World} {x : KV} (h : KAt W x) (hb : Below W.heap.size W W') : KAt W' x := ⟨h.1.on hb, h.2⟩
def KRow (w : World) (v : Value) (l : List (List UInt8)) (W : World) : Prop := ∃ l' : List KV, RowI w 37 1 encK v l' W ∧ (∀ x ∈ l', KAt W x) ∧ l'.map KV.key = l
section
variable {w w0 W W' : World} {v : Value} {l : List (List UInt8)}
theorem KRow.nil (hb : Below w.heap.size w W) : KRow w (.slice none 0 0) [] W := ⟨[], RowI.nil hb, fun x hx => (by cases hx), rfl⟩
theorem KRow.on (h : KRow w v l W) (hb : Below W.heap.size W W') : KRow w v l W' := by
 obtain ⟨l', h1, h2, h3⟩ := h
 exact ⟨l', h1.on hb, fun x hx => (h2 x hx).on hb, h3⟩
theorem KRow.below (h : KRow w v l W) : Below w.heap.size w W := h.choose_spec.1.1
theorem KRow.base {w1 : World} (h : KRow w1 v l W) (hb : Below w.heap.size w w1) : KRow w v l W := by
 obtain ⟨l', h1, h2, h3⟩ := h
 exact ⟨l', h1.base8 hb, h2, h3⟩
theorem append_k (HR : KRow w0 v l W) (x : KV) (hx : KAt W x) (t' : TypeId) {cs : Array Value} (hcs : cs.toList = encK x) (hn : l.length + 1 ≤ 1000000)
  {ops : Array Oper} {rest : List Oper} {o : Oper} {a : Act} {Q : Exit → Act → World → Prop} (hgd : o.guard = none) (s y : Operand)
  (ho : o.op = .call { callee := .builtin .append, args := #[s, y], argTypes := #[46, 46] })
  (hs : a.eval s = v) (c : Nat) (hy : a.eval y = .slice (some ⟨W.heap.size, 0, none⟩) 1 c)
  (h : ∀ v' w', KRow w0 v' (l ++ [x.key]) w' → KeepT 37 W w' → wpList Tryz.prog ops Q rest (a.put o.dst v') w') :
  wpList Tryz.prog ops Q (o :: rest) a (W.alloc (Obj.cells cs t' (0, 0))) := by
 obtain ⟨l', h1, h2, h3⟩ := HR
 obtain ⟨i0, z, hi, hz0, hz1, hz2, hz3⟩ := kindK.info
 have hl : l'.length = l.length := by rw [← h3, List.length_map]
 have hA := h1.alloc (Obj.cells cs t' (0, 0))
 have hnew := heap_alloc_new W (Obj.cells cs t' (0, 0))
 have hb1 : Below W.heap.size W (W.alloc (Obj.cells cs t' (0, 0))) := (Below.refl _ W).alloc (Nat.le_refl _) _
 refine wpList_append_own _ hgd s y 46 ho w0.heap.size 37 i0 z 1 24 Tryz.underlying46 hi hz0 hz1 hz2 hz3 (by decide) v l'.length (l'.flatMap encK) hs hA.2 ⟨W.heap.size, 0, none⟩ 1 c (encK x) hy (by rw [kindK.len]) ?_ (kindK.one x) (by unfold maxLen; omega) (by omega) hA.1.size ?_
 ·intro j u hu
  rw [add_off, blk_cell hnew, ← hu, ← hcs, Array.getElem?_toList]
 ·intro v' w' hown hgrow _
  have hk : KeepT 37 W w' := (KeepT.below hb1).trans (KeepT.grown hA.2 hgrow)
  refine h v' w' ⟨l' ++ [x], ⟨grownB hA.1 (Nat.le_refl _) hgrow (fun k hk => (hA.2.lt k hk).1), ?_⟩, fun y hy => ?_, by rw [List.map_append, h3]; rfl⟩ hk
  ·rw [List.length_append, List.flatMap_append, List.flatMap_cons, List.flatMap_nil, List.append_nil]
   exact hown
  ·rcases List.mem_append.1 hy with hy | hy
   ·exact (h2 y hy).keep hk (by decide)
   ·rw [List.mem_singleton.1 hy]; exact hx.keep hk (by decide)
end
theorem putD_next {l1 l2 : List IV} {zs : List (List UInt8)} {k : Nat} (hk : k < zs.length) : putD l1 l2 (zs.take (k + 1)) = putD l1 l2 (zs.take k) ++ putD l1 l2 [zs[k]] := by
 unfold putD
 rw [List.take_succ_eq_append_getElem hk, List.filterMap_append]
theorem putD_len (l1 l2 : List IV) (zs : List (List UInt8)) : (putD l1 l2 zs).length ≤ zs.length := List.length_filterMap_le _ _
theorem putD_one {l1 l2 : List IV} {z v : List UInt8} (h2 : lastV l2 z = some v) (h1 : lastV l1 z ≠ some v) : putD l1 l2 [z] = [(z, v)] := by
 simp [putD, h2, h1]
theorem putD_no {l1 l2 : List IV} {z v : List UInt8} (h2 : lastV l2 z = some v) (h1 : lastV l1 z = some v) : putD l1 l2 [z] = [] := by
 simp [putD, h2, h1]
theorem goneL_len (l2 : List IV) (zs : List (List UInt8)) : (goneL l2 zs).length ≤ zs.length := List.length_filter_le _ _
theorem goneL_one {l2 : List IV} {z : List UInt8} (h : lastV l2 z = none) : goneL l2 [z] = [z] := by simp [goneL, h]
theorem goneL_no {l2 : List IV} {z v : List UInt8} (h : lastV l2 z = some v) : goneL l2 [z] = [] := by simp [goneL, h]
theorem goneL_next {l2 : List IV} {zs : List (List UInt8)} {k : Nat} (hk : k < zs.length) : goneL l2 (zs.take (k + 1)) = goneL l2 (zs.take k) ++ goneL l2 [zs[k]] := by
 unfold goneL
 rw [List.take_succ_eq_append_getElem hk, List.filter_append]
set_option maxRecDepth 100000 in
set_option maxHeartbeats 8000000 in
theorem Delta_any (l1 l2 : List IV) (A1 A2 : Option Addr) (c1 c2 : Nat) (hl1 : l1.length ≤ 100000) (hl2 : l2.length ≤ 100000) (hsz : ∀ x ∈ l2, x.val.length ≤ 140737488355328) (w : World) (h1 : ItsAt w A1 l1) (h2 : ItsAt w A2 l2) :
  Calls Tryz.prog 20 #[.slice A1 l1.length c1, .slice A2 l2.length c2] w fun e w' => ∃ vp vg z1 z2, e = .returned (.tuple #[vp, vg]) ∧ z1.Pairwise (fun a b => bl a b = true) ∧ (∀ z, z ∈ z1 ↔ (lastV l1 z).isSome = true) ∧ z2.Pairwise (fun a b => bl a b = true) ∧ (∀ z, z ∈ z2 ↔ (lastV l2 z).isSome = true) ∧ ItRow w vp (putD l1 l2 z2) w' ∧ KRow w vg (goneL l2 z1) w' := by
 have HI1 := Lib.hid (fun W (hb : Below w.heap.size w W) => h1.on hb)
 have HI2 := Lib.hid (fun W (hb : Below w.heap.size w W) => h2.on hb)
 have HK1 := Lib.hid (fun W (hb : Below w.heap.size w W) => lasts_any l1 A1 c1 (by omega) (fun x hx => Nat.le_trans ((h1.on hb).2 x hx).kcap.1 ((h1.on hb).2 x hx).kcap.2.1) W (h1.on hb))
 have HK2 := Lib.hid (fun W (hb : Below w.heap.size w W) => lasts_any l2 A2 c2 (by omega) (fun x hx => Nat.le_trans ((h2.on hb).2 x hx).kcap.1 ((h2.on hb).2 x hx).kcap.2.1) W (h2.on hb))
 have HL1 := Lib.hid hl1
 have HL2 := Lib.hid hl2
 have HSZ := Lib.hid hsz
 clear h1 h2 hl1 hl2 hsz
 have hfv := run_val
 have HC1 := Lib.hid (HK1.out w (Below.refl _ _))
 go_enter Tryz.func20, Tryz.ntmps20
 go_upto_region 1 with (fail)
 go_wp2_with fail
 go_at_call 51
 refine HC1.out.mono ?_
 rintro e W1 ⟨b1, L1, rfl, hLs1⟩
 have HB1 := Lib.hid hLs1.below
 have HS1 := Lib.hid hLs1
 have HC2 := Lib.hid (HK2.out W1 HB1.out)
 clear hLs1 HC1
 go_wp2_with fail
 go_at_call 51
 refine HC2.out.mono ?_
 rintro e W2 ⟨b2, L2, rfl, hLs2⟩
 have HS1 := Lib.hid (HS1.out.on hLs2.below)
 have HB2 := Lib.hid HS1.out.below
 have HS2 := Lib.hid hLs2
 clear hLs2 HC2
 go_upto_region 2 with (fail)
 go_wp2_with fail
 go_at_call 53
 refine (keysS_any _ _).mono ?_
 rintro e W3 ⟨rfl, rfl⟩
 have hb3 : Below W2.heap.size W2 (W2.alloc (.cells #[.map (some b2)] 96)) := (Below.refl _ _).alloc (Nat.le_refl _) _
 have hm3 : (W2.alloc (.cells #[.map (some b2)] 96)).cell? ⟨W2.heap.size, 0, none⟩ = some (.map (some b2)) := blk_cell (heap_alloc_new _ _) 0
 have hz3 : W2.heap.size < (W2.alloc (.cells #[.map (some b2)] 96)).heap.size := by rw [World.size_alloc]; omega
 generalize W2.alloc (.cells #[.map (some b2)] 96) = W3 at hb3 hm3 hz3 ⊢
 have HC3 := Lib.hid (keysOf_any (by have := HL2.out; omega) W3 W2.heap.size hz3 hm3 (HS2.out.on hb3))
 have HB3 := Lib.hid hb3
 obtain ⟨g2, hg2⟩ : ∃ g, W2.heap.size = g := ⟨_, rfl⟩
 rw [hg2] at HC3 ⊢
 clear hb3 hm3 hz3 hg2
 go_wp2_with fail
 go_at_call 52
 refine HC3.out.mono ?_
 rintro e W4 ⟨z2, v2, rfl, ⟨A4, c4, rfl, hst⟩, hpw2, hmem2, hlen2, hb4⟩
 have HST := Lib.hid hst
 have HPW2 := Lib.hid hpw2
 have HMEM2 := Lib.hid hmem2
 have HZ2 : Hid (z2.length ≤ 100000) := by have := HL2.out; unfold Hid; omega
 have hb24 : Below W2.heap.size W2 W4 := HB3.out.trans (hb4.mono HB3.out.size)
 have HT1 := Lib.hid (HS1.out.on hb24)
 have HT2 := Lib.hid (HS2.out.on hb24)
 have HB4 := Lib.hid (HT1.out.below)
 clear hst hpw2 hmem2 hlen2 hb4 hb24 HS1 HS2 HB3 HC3
 go_wp2_with fail
 go_loopg [4, 24] z2.length (fun g v i wr => ∃ k : Nat, k ≤ z2.length ∧ g = z2.length - k ∧ i = .int .i64 (k : Int) ∧ ItRow W4 v (putD l1 l2 (z2.take k)) wr)
 case atStart => exact ⟨0, Nat.zero_le _, rfl, rfl, ItRow.nil (Below.refl _ _)⟩
 case round =>
  obtain ⟨k, hk, hgk, rfl, HV⟩ := hrel
  have HGK := Lib.hid hgk
  clear hgk
  by_cases hlt : k < z2.length
  ·have b0 : (0 : Int) ≤ (k : Int) := by omega
   have b1 : (k : Int) < (z2.length : Int) := by omega
   have hk0 : IntKind.i64.wrap ((k : Int) + 1) = (k : Int) + 1 := IntWalk.i64_in _ (by have := HZ2.out; omega)
   have hT := Lib.hid (putD_next (l1 := l1) (l2 := l2) hlt)
   obtain ⟨ad, rfl, hcell⟩ := HST.out k hlt
   have hc0 := hcell wr HV.below
   obtain ⟨v0, hv0⟩ := Option.isSome_iff_exists.1 ((HMEM2.out z2[k]).1 (List.getElem_mem hlt))
   have hln : Hid ((putD l1 l2 (z2.take k)).length + 1 ≤ 1000000) := by
    have h3 := putD_len l1 l2 (z2.take k)
    have := HZ2.out
    rw [List.length_take] at h3
    unfold Hid
    omega
   clear hcell
   generalize putD l1 l2 (z2.take k) = P0 at *
   generalize z2[k] = z at *
   obtain ⟨y, hy, rfl⟩ : ∃ y, lastOf l2 ⟨z.toArray⟩ = some y ∧ y.val = v0 := by
    unfold lastV at hv0
    obtain ⟨y, hy, e⟩ := Option.map_eq_some_iff.1 hv0
    exact ⟨y, hy, e⟩
   obtain ⟨hyl, hyk⟩ := lastOf_mem hy
   have hkey : y.key = z := by
    have := congrArg (fun b : ByteArray => b.data.toList) hyk
    simpa [IV.kS] using this
   have HYA := Lib.hid (fun W (hb : Below W4.heap.size W4 W) => (HI2.out W (HB4.out.trans (hb.mono HB4.out.size))).2 y hyl)
   have HZL : Hid (z.length ≤ maxLen) := by have := (HYA.out W4 (Below.refl _ _)).kcap; rw [hkey] at this; exact Nat.le_trans this.1 this.2.1
   have HVL := Lib.hid (HSZ.out y hyl)
   have HKY := Lib.hid hkey
   obtain ⟨s, hs⟩ : ∃ s : ByteArray, (⟨z.toArray⟩ : ByteArray) = s := ⟨_, rfl⟩
   have HSS := Lib.hid hs
   have hok : Hid (OkS s) := by rw [← hs]; unfold Hid OkS; simpa [ByteArray.size] using HZL.out
   rw [hs] at hc0 hy
   have HY := Lib.hid hy
   have HLV2 := Lib.hid hv0
   clear hs hy hyk hkey hv0 hyl
   have HVB := Lib.hid HV.below
   cases ho : lastOf l1 s with
   |none =>
    have HO := Lib.hid ho
    have HNE : Hid (lastV l1 z ≠ some y.val) := by unfold Hid lastV; rw [HSS.out, HO.out]; simp
    clear ho
    go_upto_region 6 with (at_lookup; refine wp_look rfl _ _ 96 rfl 39 keyS Tryz.underlying96 (zeroIt _) _ rfl (HT1.out.on HVB.out).map hok.out rfl ?_; intro r hr; obtain rfl := HT1.out.no hr HO.out; clear hr; dsimp only [iV, noIt])
    have HB6 := Lib.hid ((Below.refl wr.heap.size wr).alloc (Nat.le_refl _) (Obj.cells #[.slice none ([] : List UInt8).length 0, .slice none ([] : List UInt8).length 0] 39))
    go_upto_region 7 with (fail)
    generalize (World.alloc _ _) = W6 at *
    obtain ⟨W8, c8, hrun, hb8, hB8, hc8, hm8⟩ := conv_own3 W6 z HZL.out
    rw [HSS.out] at hrun
    have HB8 := Lib.hid (HB6.out.trans (hb8.mono HB6.out.size))
    have HV8 := Lib.hid (HV.on HB8.out)
    have HB48 := Lib.hid (HVB.out.trans (HB8.out.mono HVB.out.size))
    have hya := HYA.out W8 HB48.out
    have HCL := Lib.hid (Clone_any (c := y.vc) hya.val.bytes hya.vcap.2.2 HVL.out)
    have HB8T := Lib.hid hB8
    have HC8 := Lib.hid (And.intro hc8 hm8)
    generalize W6.heap.size = g8 at *
    clear hya hB8 hc8 hm8 hb8
    go_wp2_with (first
     |(at_lookup; refine wp_look1 rfl _ _ 96 rfl 39 keyS Tryz.underlying96 (zeroIt _) _ rfl (HT2.out.on HB48.out).map hok.out rfl ?_; intro r hr; obtain rfl := HT2.out.yes hr HY.out; clear hr; dsimp only [iV])
     |(go_at_call 54; go_must ((with_reducible refine HCL.out.mono ?_); rintro e' W9 ⟨v9, rfl, hR9⟩; obtain ⟨A9, c9, rfl, hB9, hn9, hm9, hz9⟩ := hR9.byT; have HX9 : Hid (ItAt W9 ⟨z, some ⟨g8, 0, none⟩, c8, y.val, A9, c9⟩) := Lib.hid ⟨HB8T.out.on hR9.1, hB9, ⟨HC8.out.1, HC8.out.2, fun e => by cases e⟩, ⟨hn9, hm9, hz9⟩⟩; have HV9 := Lib.hid (HV8.out.on hR9.1); clear hR9 hB9 hn9 hm9 hz9))
     |(at_builtin; go_must (refine append_it HV9.out _ HX9.out _ rfl hln.out rfl _ _ rfl rfl _ rfl ?_; rintro v10 W10 hR10 -; have HR10 := Lib.hid hR10; clear hR10)))
    go_roundg (z2.length - (k + 1))
    case measure => have := HGK.out; omega
    case rel =>
     refine ⟨k + 1, by omega, rfl, by go_num, ?_⟩
     rw [hT.out, putD_one HLV2.out HNE.out]
     exact HR10.out
   |some x =>
    have HO := Lib.hid ho
    obtain ⟨hxl, hxk⟩ := lastOf_mem ho
    rw [← HSS.out] at hxk
    have hkx : x.key = z := by
     have := congrArg (fun b : ByteArray => b.data.toList) hxk
     simpa [IV.kS] using this
    have HXA := Lib.hid (fun W (hb : Below W4.heap.size W4 W) => (HI1.out W (HB4.out.trans (hb.mono HB4.out.size))).2 x hxl)
    have HKX := Lib.hid hkx
    clear ho hxl hxk hkx
    go_upto_region 6 with (at_lookup; refine wp_look rfl _ _ 96 rfl 39 keyS Tryz.underlying96 (zeroIt _) _ rfl (HT1.out.on HVB.out).map hok.out rfl ?_; intro r hr; obtain rfl := HT1.out.yes hr HO.out; clear hr; dsimp only [iV])
    have HB6 := Lib.hid ((Below.refl wr.heap.size wr).alloc (Nat.le_refl _) (Obj.cells #[.slice x.kA x.key.length x.kc, .slice x.vA x.val.length x.vc] 39))
    have hnew := heap_alloc_new wr (Obj.cells #[.slice x.kA x.key.length x.kc, .slice x.vA x.val.length x.vc] 39)
    generalize (World.alloc _ _) = W6 at *
    have d0 : W6.cell? ⟨wr.heap.size, 0, none⟩ = some (.slice x.kA x.key.length x.kc) := blk_cell hnew 0
    have d1 : W6.cell? ⟨wr.heap.size, 1, none⟩ = some (.slice x.vA x.val.length x.vc) := blk_cell hnew 1
    clear hnew
    have HB46 := Lib.hid (HVB.out.trans (HB6.out.mono HVB.out.size))
    have hsm := same_any x y (HXA.out W6 HB46.out) (HYA.out W6 HB46.out)
    rw [HKX.out, HKY.out] at hsm
    unfold iV at hsm
    obtain ⟨g6, hg6⟩ : ∃ g, wr.heap.size = g := ⟨_, rfl⟩
    rw [hg6] at d0 d1 ⊢
    clear hg6
    have HB66 := HB6
    have hlook := (HT2.out.on HB46.out).look1 hok.out HY.out
    clear HB6
    by_cases hxy : x.val = y.val
    ·have hbb : (decide (z = z) && decide (x.val = y.val)) = true := by simp [hxy]
     rw [hbb] at hsm
     have HSM := Lib.hid hsm
     have HEQ : Hid (lastV l1 z = some y.val) := by unfold Hid lastV; rw [HSS.out, HO.out, ← hxy]; rfl
     clear hsm hbb hxy
     go_wp2_with ((go_at_call 49; go_must ((with_reducible refine HSM.out.mono ?_); rintro e' W7 ⟨rfl, hB7⟩; have HB7 := Lib.hid (HB66.out.trans (hB7.mono HB66.out.size)); clear hB7)))
     clear hlook
     go_roundg (z2.length - (k + 1))
     case measure => have := HGK.out; omega
     case rel =>
      refine ⟨k + 1, by omega, rfl, by go_num, ?_⟩
      rw [hT.out, putD_no HLV2.out HEQ.out, List.append_nil]
      exact HV.on HB7.out
    ·have hbb : (decide (z = z) && decide (x.val = y.val)) = false := by simp [hxy]
     rw [hbb] at hsm
     have HSM := Lib.hid hsm
     have HNE : Hid (lastV l1 z ≠ some y.val) := by
      unfold Hid lastV
      rw [HSS.out, HO.out]
      exact fun e => hxy (Option.some.inj e)
     clear hsm hbb hxy
     go_upto_region 7 with ((go_at_call 49; go_must ((with_reducible refine HSM.out.mono ?_); rintro e' W7 ⟨rfl, hB7⟩; have HB6 := Lib.hid (HB66.out.trans (hB7.mono HB66.out.size)); clear hB7)))
     clear d0 d1 HSM HB46 hlook
     generalize W6 = W5 at *
     generalize W7 = W6 at *
     obtain ⟨W8, c8, hrun, hb8, hB8, hc8, hm8⟩ := conv_own3 W6 z HZL.out
     rw [HSS.out] at hrun
     have HB8 := Lib.hid (HB6.out.trans (hb8.mono HB6.out.size))
     have HV8 := Lib.hid (HV.on HB8.out)
     have HB48 := Lib.hid (HVB.out.trans (HB8.out.mono HVB.out.size))
     have hya := HYA.out W8 HB48.out
     have HCL := Lib.hid (Clone_any (c := y.vc) hya.val.bytes hya.vcap.2.2 HVL.out)
     have HB8T := Lib.hid hB8
     have HC8 := Lib.hid (And.intro hc8 hm8)
     generalize W6.heap.size = g8 at *
     clear hya hB8 hc8 hm8 hb8
     go_wp2_with (first
      |(at_lookup; refine wp_look1 rfl _ _ 96 rfl 39 keyS Tryz.underlying96 (zeroIt _) _ rfl (HT2.out.on HB48.out).map hok.out rfl ?_; intro r hr; obtain rfl := HT2.out.yes hr HY.out; clear hr; dsimp only [iV])
      |(go_at_call 54; go_must ((with_reducible refine HCL.out.mono ?_); rintro e' W9 ⟨v9, rfl, hR9⟩; obtain ⟨A9, c9, rfl, hB9, hn9, hm9, hz9⟩ := hR9.byT; have HX9 : Hid (ItAt W9 ⟨z, some ⟨g8, 0, none⟩, c8, y.val, A9, c9⟩) := Lib.hid ⟨HB8T.out.on hR9.1, hB9, ⟨HC8.out.1, HC8.out.2, fun e => by cases e⟩, ⟨hn9, hm9, hz9⟩⟩; have HV9 := Lib.hid (HV8.out.on hR9.1); clear hR9 hB9 hn9 hm9 hz9))
      |(at_builtin; go_must (refine append_it HV9.out _ HX9.out _ rfl hln.out rfl _ _ rfl rfl _ rfl ?_; rintro v10 W10 hR10 -; have HR10 := Lib.hid hR10; clear hR10)))
     go_roundg (z2.length - (k + 1))
     case measure => have := HGK.out; omega
     case rel =>
      refine ⟨k + 1, by omega, rfl, by go_num, ?_⟩
      rw [hT.out, putD_one HLV2.out HNE.out]
      exact HR10.out
  ·obtain rfl : k = z2.length := by omega
   rw [List.take_length] at HV
   have HP := Lib.hid HV
   clear HV
   go_wp2_with fail
   go_at_call 53
   refine (keysS_any _ _).mono ?_
   rintro e W5 ⟨rfl, rfl⟩
   have hb5 : Below wr.heap.size wr (wr.alloc (.cells #[.map (some b1)] 96)) := (Below.refl _ _).alloc (Nat.le_refl _) _
   have hm5 : (wr.alloc (.cells #[.map (some b1)] 96)).cell? ⟨wr.heap.size, 0, none⟩ = some (.map (some b1)) := blk_cell (heap_alloc_new _ _) 0
   have hz5 : wr.heap.size < (wr.alloc (.cells #[.map (some b1)] 96)).heap.size := by rw [World.size_alloc]; omega
   generalize wr.alloc (.cells #[.map (some b1)] 96) = W5 at hb5 hm5 hz5 ⊢
   have hb45 := HP.out.below.trans (hb5.mono HP.out.below.size)
   have HC5 := Lib.hid (keysOf_any (by have := HL1.out; omega) W5 wr.heap.size hz5 hm5 (HT1.out.on hb45))
   have HP5 := Lib.hid (HP.out.on hb5)
   have HT1 := Lib.hid (HT1.out.on hb45)
   have HT2 := Lib.hid (HT2.out.on hb45)
   obtain ⟨g5, hg5⟩ : ∃ g, wr.heap.size = g := ⟨_, rfl⟩
   rw [hg5] at HC5 ⊢
   clear hb5 hm5 hz5 hg5 hb45 HP
   go_wp2_with fail
   go_at_call 52
   refine HC5.out.mono ?_
   rintro e W6 ⟨z1, v6, rfl, ⟨A6, c6, rfl, hst1⟩, hpw1, hmem1, hlen1, hb6⟩
   have HST1 := Lib.hid hst1
   have HPW1 := Lib.hid hpw1
   have HMEM1 := Lib.hid hmem1
   have HZ1 : Hid (z1.length ≤ 100000) := by have := HL1.out; unfold Hid; omega
   have HP6 := Lib.hid (HP5.out.on hb6)
   have HT1 := Lib.hid (HT1.out.on hb6)
   have HT2 := Lib.hid (HT2.out.on hb6)
   have HB6 := Lib.hid HT1.out.below
   clear hst1 hpw1 hmem1 hlen1 hb6 HP5 HC5
   go_wp2_with fail
   go_loopg [5, 60] z1.length (fun g v i wr => ∃ k : Nat, k ≤ z1.length ∧ g = z1.length - k ∧ i = .int .i64 (k : Int) ∧ KRow W6 v (goneL l2 (z1.take k)) wr)
   case atStart => exact ⟨0, Nat.zero_le _, rfl, rfl, KRow.nil (Below.refl _ _)⟩
   case round =>
    obtain ⟨k, hk, hgk, rfl, HV⟩ := hrel
    have HGK := Lib.hid hgk
    clear hgk
    by_cases hlt : k < z1.length
    ·have b0 : (0 : Int) ≤ (k : Int) := by omega
     have b1 : (k : Int) < (z1.length : Int) := by omega
     have hk0 : IntKind.i64.wrap ((k : Int) + 1) = (k : Int) + 1 := IntWalk.i64_in _ (by have := HZ1.out; omega)
     have hT := Lib.hid (goneL_next (l2 := l2) hlt)
     obtain ⟨ad1, rfl, hcell⟩ := HST1.out k hlt
     have hc0 := hcell wr HV.below
     obtain ⟨v0, hv0⟩ := Option.isSome_iff_exists.1 ((HMEM1.out z1[k]).1 (List.getElem_mem hlt))
     have hln : Hid ((goneL l2 (z1.take k)).length + 1 ≤ 1000000) := by
      have h3 := goneL_len l2 (z1.take k)
      have := HZ1.out
      rw [List.length_take] at h3
      unfold Hid
      omega
     clear hcell
     generalize goneL l2 (z1.take k) = P0 at *
     generalize z1[k] = z at *
     obtain ⟨y, hy, -⟩ : ∃ y, lastOf l1 ⟨z.toArray⟩ = some y ∧ y.val = v0 := by
      unfold lastV at hv0
      obtain ⟨y, hy, e⟩ := Option.map_eq_some_iff.1 hv0
      exact ⟨y, hy, e⟩
     obtain ⟨hyl, hyk⟩ := lastOf_mem hy
     have hkey : y.key = z := by
      have := congrArg (fun b : ByteArray => b.data.toList) hyk
      simpa [IV.kS] using this
     have HZL : Hid (z.length ≤ maxLen) := by have := ((HI1.out w (Below.refl _ _)).2 y hyl).kcap; rw [hkey] at this; exact Nat.le_trans this.1 this.2.1
     obtain ⟨s, hs⟩ : ∃ s : ByteArray, (⟨z.toArray⟩ : ByteArray) = s := ⟨_, rfl⟩
     have HSS := Lib.hid hs
     have hok : Hid (OkS s) := by rw [← hs]; unfold Hid OkS; simpa [ByteArray.size] using HZL.out
     rw [hs] at hc0
     clear hs hy hyk hkey hv0 hyl
     have HVB := Lib.hid HV.below
     cases ho : lastOf l2 s with
     |some x =>
      have HO := Lib.hid ho
      have HN : Hid (lastV l2 z = some x.val) := by unfold Hid lastV; rw [HSS.out, HO.out]; rfl
      clear ho
      go_wp2_with (at_lookup; refine wp_look rfl _ _ 96 rfl 39 keyS Tryz.underlying96 (zeroIt _) _ rfl (HT2.out.on HVB.out).map hok.out rfl ?_; intro r hr; obtain rfl := HT2.out.yes hr HO.out; clear hr; dsimp only [iV])
      go_roundg (z1.length - (k + 1))
      case measure => have := HGK.out; omega
      case rel =>
       refine ⟨k + 1, by omega, rfl, by go_num, ?_⟩
       rw [hT.out, goneL_no HN.out, List.append_nil]
       exact HV.on ((Below.refl wr.heap.size wr).alloc (Nat.le_refl _) _)
     |none =>
      have HO := Lib.hid ho
      have HN : Hid (lastV l2 z = none) := by unfold Hid lastV; rw [HSS.out, HO.out]; rfl
      clear ho
      go_upto_region 13 with (at_lookup; refine wp_look rfl _ _ 96 rfl 39 keyS Tryz.underlying96 (zeroIt _) _ rfl (HT2.out.on HVB.out).map hok.out rfl ?_; intro r hr; obtain rfl := HT2.out.no hr HO.out; clear hr; dsimp only [iV, noIt])
      have HB7 := Lib.hid ((Below.refl wr.heap.size wr).alloc (Nat.le_refl _) (Obj.cells #[.slice none ([] : List UInt8).length 0, .slice none ([] : List UInt8).length 0] 39))
      go_upto_region 14 with (fail)
      generalize (World.alloc _ _) = W7 at *
      obtain ⟨W8, c8, hrun, hb8, hB8, hc8, hm8⟩ := conv_own3 W7 z HZL.out
      rw [HSS.out] at hrun
      have HB8 := Lib.hid (HB7.out.trans (hb8.mono HB7.out.size))
      have HV8 := Lib.hid (HV.on HB8.out)
      have HX8 : Hid (KAt W8 ⟨some ⟨W7.heap.size, 0, none⟩, c8, z⟩) := ⟨hB8, hc8, hm8⟩
      generalize W7.heap.size = g8 at *
      clear hB8 hc8 hm8 hb8
      go_wp2_with (at_builtin; go_must (refine append_k HV8.out _ HX8.out _ rfl hln.out rfl _ _ rfl rfl _ rfl ?_; rintro v10 W10 hR10 -; have HR10 := Lib.hid hR10; clear hR10))
      go_roundg (z1.length - (k + 1))
      case measure => have := HGK.out; omega
      case rel =>
       refine ⟨k + 1, by omega, rfl, by go_num, ?_⟩
       rw [hT.out, goneL_one HN.out]
       exact HR10.out
    ·obtain rfl : k = z1.length := by omega
     rw [List.take_length] at HV
     have HG := Lib.hid HV
     clear HV
     go_wp2
     refine bodyPost_ret (v := .tuple #[u4, u5]) ?_ rfl ⟨u4, u5, z1, z2, rfl, HPW1.out, HMEM1.out, HPW2.out, HMEM2.out, ?_, HG.out.base HB6.out⟩
     ·simp [results, Tryz.results20, go_sem]
     ·exact (HP6.out.on HG.out.below).base HB4.out
end Go.Proofs.YtjlnjjmomohpaaaGreat

namespace Go.Proofs.YtjlnjjmomohpaaaGreat
open Go.RowKit Go.Lib

structure ItRd (W : World) (x : IV) : Prop where
 key : BytesAt W x.kA x.key.length x.key
 val : BytesAt W x.vA x.val.length x.val
 kn : x.kA = none → x.kc = 0
 vn : x.vA = none → x.vc = 0
theorem ItRd.on {W W' : World} {x : IV} (h : ItRd W x) (hb : Below W.heap.size W W') : ItRd W' x := ⟨h.key.on hb, h.val.on hb, h.kn, h.vn⟩
def ItsRd (W : World) (A : Option Addr) (l : List IV) : Prop := Items W W.heap.size A encI l ∧ ∀ x ∈ l, ItRd W x
theorem ItsRd.on {W W' : World} {A : Option Addr} {l : List IV} (h : ItsRd W A l) (hb : Below W.heap.size W W') : ItsRd W' A l := ⟨h.1.on hb, fun x hx => (h.2 x hx).on hb⟩
end Go.Proofs.YtjlnjjmomohpaaaGreat

namespace Go.Proofs.YtjlnjjmomohpaaaGreat

def lastIt : List Itm → List UInt8 → Option (List UInt8)
 |[], _ => none
 |x :: l, z => (lastIt l z).or (if x.1 = z then some x.2 else none)
theorem lastIt_append (l : List Itm) (x : Itm) (z : List UInt8) : lastIt (l ++ [x]) z = if x.1 = z then some x.2 else lastIt l z := by
 induction l with
 |nil => simp [lastIt]
 |cons y l ih =>
  rw [List.cons_append, lastIt, ih, lastIt]
  by_cases h : x.1 = z
  ·simp [h]
  ·simp [h]
theorem kS_eq (x : IV) (z : List UInt8) : x.kS = ⟨z.toArray⟩ ↔ x.key = z := by
 unfold IV.kS
 rw [ByteArray.mk.injEq]
 exact ⟨fun h => by simpa using congrArg Array.toList h, fun h => by rw [h]⟩
theorem lastV_it (l : List IV) (z : List UInt8) : lastV l z = lastIt (l.map IV.it) z := by
 unfold lastV
 induction l with
 |nil => rfl
 |cons x l ih =>
  rw [lastOf, List.map_cons, lastIt, ← ih]
  cases h : lastOf l ⟨z.toArray⟩ with
  |some y => rfl
  |none =>
   by_cases e : x.key = z
   ·rw [if_pos ((kS_eq x z).2 e)]
    simp [IV.it, e]
   ·rw [if_neg (fun h => e ((kS_eq x z).1 h))]
    simp [IV.it, e]
theorem findTo_append (l m : List Itm) (z : List UInt8) : ∀ n, n ≤ l.length → findTo (l ++ m) z n = findTo l z n
 |0, _ => rfl
 |n + 1, h => by
  unfold findTo
  rw [findTo_append l m z n (by omega)]
  have e : (l ++ m).getD n ([], []) = l.getD n ([], []) := by
   rw [List.getD_eq_getElem?_getD, List.getD_eq_getElem?_getD, List.getElem?_append_left (by omega)]
  rw [e]
theorem find_last (L : List Itm) (z : List UInt8) : (∃ k : Nat, findI L z = (k : Int) ∧ ∃ h : k < L.length, L[k].1 = z ∧ lastIt L z = some L[k].2) ∨ (findI L z = -1 ∧ lastIt L z = none) := by
 suffices h : ∀ (M : List Itm), (∃ k : Nat, findI M.reverse z = (k : Int) ∧ ∃ h : k < M.reverse.length, M.reverse[k].1 = z ∧ lastIt M.reverse z = some M.reverse[k].2) ∨ (findI M.reverse z = -1 ∧ lastIt M.reverse z = none) by
  have := h L.reverse
  rwa [List.reverse_reverse] at this
 intro M
 induction M with
 |nil => exact .inr ⟨rfl, rfl⟩
 |cons x M ih =>
  rw [List.reverse_cons]
  have e1 : findI (M.reverse ++ [x]) z = if x.1 = z then (M.reverse.length : Int) else findI M.reverse z := by
   unfold findI
   rw [List.length_append, List.length_singleton]
   show (if _ then _ else _) = _
   rw [findTo_append _ _ _ _ (Nat.le_refl _)]
   have e : (M.reverse ++ [x]).getD M.reverse.length ([], []) = x := by simp [List.getD_eq_getElem?_getD]
   rw [e]
  rw [e1, lastIt_append]
  by_cases hx : x.1 = z
  ·rw [if_pos hx, if_pos hx]
   exact .inl ⟨M.reverse.length, rfl, by simp, by simpa using hx, by simp⟩
  ·rw [if_neg hx, if_neg hx]
   rcases ih with ⟨k, h1, h2, h3, h4⟩ | ⟨h1, h2⟩
   ·refine .inl ⟨k, h1, by rw [List.length_append]; omega, ?_, ?_⟩
    ·rw [List.getElem_append_left h2]; exact h3
    ·rw [List.getElem_append_left h2]; exact h4
   ·exact .inr ⟨h1, h2⟩
def isLast (L : List Itm) (i : Nat) : Bool := decide (findI L (L.getD i ([], [])).1 = (i : Int))
def cntL (L : List Itm) (p : List UInt8 → Bool) (i : Nat) : Nat := ((List.range i).filter fun i => isLast L i && p (L.getD i ([], [])).1).length
theorem cntL_le (L : List Itm) (p : List UInt8 → Bool) (i : Nat) : cntL L p i ≤ i := by
 have := List.length_filter_le (fun i => isLast L i && p (L.getD i ([], [])).1) (List.range i)
 rw [List.length_range] at this
 exact this
theorem getD_at {L : List Itm} {i : Nat} (h : i < L.length) : L.getD i ([], []) = L[i] := by
 rw [List.getD_eq_getElem?_getD, List.getElem?_eq_getElem h]; rfl
theorem cnt_all (L : List Itm) (zs : List (List UInt8)) (hnd : zs.Nodup) (hm : ∀ z, z ∈ zs ↔ (lastIt L z).isSome = true) (p : List UInt8 → Bool) : cntL L p L.length = (zs.filter p).length := by
 have hk : (((List.range L.length).filter fun i => isLast L i && p (L.getD i ([], [])).1).map fun i => (L.getD i ([], [])).1).Perm (zs.filter p) := by
  refine (List.perm_ext_iff_of_nodup ?_ (hnd.filter _)).2 fun z => ?_
  ·unfold List.Nodup
   rw [List.pairwise_map]
   have h0 : ((List.range L.length).filter fun i => isLast L i && p (L.getD i ([], [])).1).Pairwise (fun a b => a < b ∧ isLast L a = true ∧ isLast L b = true) := by
    refine List.pairwise_filter.2 (List.pairwise_lt_range.imp fun h h1 h2 => ?_)
    simp only [Bool.and_eq_true] at h1 h2
    exact ⟨h, h1.1, h2.1⟩
   refine h0.imp fun {a b} ⟨hab, h1, h2⟩ e => ?_
   unfold isLast at h1 h2
   rw [decide_eq_true_eq] at h1 h2
   rw [e, h2] at h1
   omega
  ·rw [List.mem_map, List.mem_filter]
   constructor
   ·rintro ⟨i, hi, rfl⟩
    rw [List.mem_filter, List.mem_range, Bool.and_eq_true] at hi
    refine ⟨(hm _).2 ?_, hi.2.2⟩
    have h1 := hi.2.1
    unfold isLast at h1
    rw [decide_eq_true_eq] at h1
    rcases find_last L (L.getD i ([], [])).1 with ⟨k, _, h2, _, h⟩ | ⟨h, -⟩
    ·rw [h]; rfl
    ·rw [h1] at h; omega
   ·rintro ⟨hz, hp⟩
    rcases find_last L z with ⟨k, h1, h2, h3, -⟩ | ⟨-, h2⟩
    ·refine ⟨k, ?_, by rw [getD_at h2, h3]⟩
     rw [List.mem_filter, List.mem_range, getD_at h2, h3, Bool.and_eq_true]
     refine ⟨h2, ?_, hp⟩
     unfold isLast
     rw [decide_eq_true_eq, getD_at h2, h3, h1]
    ·have := (hm z).1 hz
     rw [h2] at this
     cases this
 have := hk.length_eq
 rw [List.length_map] at this
 exact this
def putI (La Lb : List Itm) (zs : List (List UInt8)) : List Itm := zs.filterMap fun z => match lastIt Lb z with
 |some v => if lastIt La z = some v then none else some (z, v)
 |none => none
theorem putD_it (l1 l2 : List IV) (zs : List (List UInt8)) : putD l1 l2 zs = putI (l1.map IV.it) (l2.map IV.it) zs := by
 unfold putD putI
 congr 1
 funext z
 rw [lastV_it, lastV_it] <;> rfl
theorem mem_putI {La Lb : List Itm} {zs : List (List UInt8)} {x : Itm} : x ∈ putI La Lb zs ↔ x.1 ∈ zs ∧ lastIt Lb x.1 = some x.2 ∧ lastIt La x.1 ≠ some x.2 := by
 unfold putI
 rw [List.mem_filterMap]
 constructor
 ·rintro ⟨z, hz, h⟩
  cases hv : lastIt Lb z with
  |none => simp [hv] at h
  |some v =>
   simp only [hv] at h
   by_cases e : lastIt La z = some v
   ·simp [e] at h
   ·simp only [e, if_false, Option.some.injEq] at h
    subst h
    exact ⟨hz, hv, e⟩
 ·rintro ⟨h1, h2, h3⟩
  exact ⟨x.1, h1, by simp [h2, h3]⟩
theorem lastIt_none : ∀ {L : List Itm} {z : List UInt8}, lastIt L z = none → ∀ x ∈ L, x.1 ≠ z
 |y :: L, z, h, x, hx => by
  rw [lastIt] at h
  cases h1 : lastIt L z with
  |some v => rw [h1] at h; cases h
  |none =>
   rw [h1] at h
   rcases List.mem_cons.1 hx with rfl | hx
   ·intro e
    simp [e] at h
   ·exact lastIt_none h1 x hx
theorem goneL_it (l2 : List IV) (zs : List (List UInt8)) : goneL l2 zs = zs.filter fun z => (lastIt (l2.map IV.it) z).isNone := by
 unfold goneL
 congr 1
 funext z
 rw [lastV_it]
theorem bl_nodup {zs : List (List UInt8)} (h : zs.Pairwise (fun a b => bl a b = true)) : zs.Nodup := h.imp fun h e => by
 rw [e, bl_irrefl] at h
 cases h
end Go.Proofs.YtjlnjjmomohpaaaGreat
