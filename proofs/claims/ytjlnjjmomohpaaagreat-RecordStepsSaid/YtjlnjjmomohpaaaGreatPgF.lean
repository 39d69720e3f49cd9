/- The program's filled: do the parcels' areas come to the territory's? -/
import Derived.Test.YtjlnjjmomohpaaaGreatPgE
import Derived.Test.YtjlnjjmomohpaaaGreatSide
namespace Go.Proofs.YtjlnjjmomohpaaaGreat
open Go.RowKit

def encW (p : Int × Int) : List Value := [.int .i64 p.1, .int .u64 p.2]
theorem kindW : Kind 67 encW 2 16 := Kind.mk' (z := .agg #[.int .i64 0, .int .u64 0]) (fun _ => rfl) (fun a u hu => by
 simp only [encW, List.mem_cons, List.not_mem_nil, or_false] at hu
 rcases hu with rfl | rfl <;> rfl) (by decide) (by kernel_rfl) rfl
def areasL (l : List PV) : List (Int × Int) := l.map fun x => (arH x.par.ring, arL x.par.ring)
theorem areasL_take {l : List PV} {k : Nat} (hk : k < l.length) : areasL (l.take (k + 1)) = areasL (l.take k) ++ [(arH l[k].par.ring, arL l[k].par.ring)] := by
 rw [List.take_succ_eq_append_getElem hk]
 unfold areasL
 rw [List.map_append, List.map_cons, List.map_nil]
theorem areasL_len (l : List PV) : (areasL l).length = l.length := by unfold areasL; rw [List.length_map]
theorem wf_ar {r : List (Int × Int)} (h : arE r = 0) : Wf (arH r) (arL r) := by
 obtain ⟨h1, h2⟩ := arE_zero.1 h
 unfold arH arL
 rw [if_pos h, if_pos h]
 exact wf_of (rim_inR h2 h1 (Nat.le_refl _))
theorem pairs_of {w : World} {B : Nat} {A : Option Addr} {ps : List (Int × Int)} (h : Items w B A encW ps) : Pairs w B A ps := fun hp => by
 obtain ⟨ad, e, hb, -⟩ := h.get kindW.len hp
 refine ⟨ad, e, hb, fun k p hk => ?_⟩
 have hlt : k < ps.length := by
  by_cases hlt : k < ps.length
  ·exact hlt
  ·rw [List.getElem?_eq_none (by omega)] at hk; cases hk
 obtain ⟨ad', e', -, hc⟩ := h.get kindW.len hlt
 obtain rfl := Option.some.inj (e.symm.trans e')
 rw [List.getElem?_eq_getElem hlt] at hk
 obtain rfl := Option.some.inj hk
 exact ⟨hc 0 _ (by decide) rfl, by rw [Go.Deep.add_add]; exact hc 1 _ (by decide) rfl⟩
section
variable {α : Type} {T : TypeId} {enc : α → List Value} {n bytes : Nat} {w0 W : World} {v : Value} {l : List α}
theorem RowI.apart {g : Nat} {cs : Array Value} {t : TypeId} (h : RowI w0 T n enc v l W) (hb : W.heap[g]? = some (.cells cs t (0, 0))) (hne : t ≠ T) : v.ownBlock ≠ some g := fun e => by
 rcases h.2.2 with ⟨rfl, _⟩ | ⟨g', cap, cur, rfl, _, hg, _⟩
 ·cases e
 ·obtain rfl : g' = g := Option.some.inj e
  rw [hb] at hg
  cases hg
  exact hne rfl
theorem append_itemG (K : Kind T enc n bytes) {TS : TypeId} (hT : Tryz.prog.underlying TS = some (.slice T)) (HR : RowI w0 T n enc v l W) (x : α) (t' : TypeId) (cs : Array Value) (hcs : cs.toList = enc x)
  (hn : l.length + 1 ≤ maxLen) (hb : (l.length + 1) * bytes ≤ 140737488355328)
  {ops : Array Oper} {rest : List Oper} {o : Oper} {a : Act} {Q : Exit → Act → World → Prop} (hgd : o.guard = none) (s y : Operand)
  (ho : o.op = .call { callee := .builtin .append, args := #[s, y], argTypes := #[TS, TS] })
  (hs : a.eval s = v) (c : Nat) (hx : a.eval y = .slice (some ⟨W.heap.size, 0, none⟩) 1 c)
  (h : ∀ v' w', RowI w0 T n enc v' (l ++ [x]) w' → (W.alloc (Obj.cells cs t' (0, 0))).grownBy w' v.ownBlock → wpList Tryz.prog ops Q rest (a.put o.dst v') w') :
  wpList Tryz.prog ops Q (o :: rest) a (W.alloc (Obj.cells cs t' (0, 0))) := by
 obtain ⟨i0, z, hi, hz0, hz1, hz2, hz3⟩ := K.info
 have hA := HR.alloc (Obj.cells cs t' (0, 0))
 have hnew := heap_alloc_new W (Obj.cells cs t' (0, 0))
 refine wpList_append_own _ hgd s y TS ho w0.heap.size T i0 z n bytes hT hi hz0 hz1 hz2 hz3 K.pos v l.length (l.flatMap enc) hs hA.2 ⟨W.heap.size, 0, none⟩ 1 c (enc x) hx (by rw [K.len, Nat.one_mul]) ?_ (K.one x) hn hb hA.1.size ?_
 ·intro j u hu
  rw [add_off, blk_cell hnew, ← hu, ← hcs, Array.getElem?_toList]
 ·intro v' w' hown hgrow _
  refine h v' w' ⟨grownB hA.1 (Nat.le_refl _) hgrow (fun k hk => (hA.2.lt k hk).1), ?_⟩ hgrow
  rw [List.length_append, List.flatMap_append, List.flatMap_cons, List.flatMap_nil, List.append_nil]
  exact hown
end
def fillB (o : List (Int × Int)) (l : List PV) : Bool := decide (tH (areasL l) = arH o) && decide (tL (areasL l) = arL o)
set_option maxRecDepth 100000 in
set_option maxHeartbeats 1000000 in
theorem filled_any (o : List (Int × Int)) (Ao : Option Addr) (co : Nat) (l : List PV) (Ap : Option Addr) (cp : Nat) (hl : l.length ≤ 1000000) (ho : o.length ≤ maxLen) (hz : ∀ x ∈ l, arE x.par.ring = 0 ∧ x.par.ring.length ≤ maxLen) (w : World) (hr : Prs w Ap l) (hro : Pts w w.heap.size Ao o) :
  Calls Tryz.prog 98 #[.agg #[.slice Ao o.length co, .slice Ap l.length cp]] w fun e' w' => e' = .returned (.bool (fillB o l)) ∧ Below w.heap.size w w' := by
 have HR := Lib.hid (fun W (h : Below w.heap.size w W) => hr.on h)
 have HA := Lib.hid (fun W (h : Below w.heap.size w W) => Area_any o Ao co ho W (hro.on h))
 have HZ := Lib.hid hz
 have HQ := (Hold.refl w).new #[.slice Ao o.length co, .slice Ap l.length cp] 26
 have HV0 : RowI w 67 2 encW (.slice none 0 0) (areasL (l.take 0)) (w.alloc (Obj.cells #[.slice Ao o.length co, .slice Ap l.length cp] 26 (0, 0))) := RowI.nil HQ.1
 have HWF : Hid (∀ p ∈ areasL l, Wf p.1 p.2) := fun p hp => by
  unfold areasL at hp
  obtain ⟨x, hx, rfl⟩ := List.mem_map.1 hp
  exact wf_ar (hz x hx).1
 have HF : Hid (fillB o l = (decide (tH (areasL l) = arH o) && decide (tL (areasL l) = arL o))) := rfl
 clear hr hro hz ho
 go_enter Tryz.func98, Tryz.ntmps98
 go_upto_region 1 with (fail)
 generalize (World.alloc _ _) = W1 at HQ HV0 ⊢
 obtain ⟨g0, hg0⟩ : ∃ g, w.heap.size = g := ⟨_, rfl⟩
 rw [hg0] at HQ ⊢
 have HG0 := Lib.hid hg0
 clear hg0
 obtain ⟨c0, c1⟩ := HQ.pt (.head _)
 go_wp2_with fail
 go_loopg [3, 15] l.length (fun g v i wr => ∃ k : Nat, k ≤ l.length ∧ g = l.length - k ∧ i = .int .i64 k ∧ RowI w 67 2 encW v (areasL (l.take k)) wr ∧ Hold w [(g0, #[.slice Ao o.length co, .slice Ap l.length cp], 26)] wr)
 case atStart => exact ⟨0, Nat.zero_le _, rfl, rfl, HV0, HQ⟩
 case round =>
  clear HQ HV0 c0 c1
  obtain ⟨k, hk, hgk, rfl, HV, HB⟩ := hrel
  have HNG := Lib.hid (HV.apart (HB.2.1 _ (.head _)).1 (show (26 : Nat) ≠ 67 by decide))
  have HGK := Lib.hid hgk
  clear hgk
  by_cases hlt : k < l.length
  ·have hw := HR.out _ HB.1
   obtain ⟨ad, rfl, -, d0, d1, d2⟩ := hw.at hlt
   obtain ⟨hp, -, -⟩ := hw.2 l[k] (List.getElem_mem hlt)
   have HT := Lib.hid (areasL_take hlt)
   have HAZ := HZ.out _ (List.getElem_mem hlt)
   have HP := Lib.hid hp
   have hlen : (areasL (l.take k)).length ≤ 1000000 := by rw [areasL_len, List.length_take]; omega
   have HLN := Lib.hid hlen
   have b0 : (0 : Int) ≤ (k : Int) := by omega
   have b1 : (k : Int) < (l.length : Int) := by omega
   clear hw hp hlen
   generalize areasL (l.take k) = ars at *
   generalize l[k].par = x at *
   generalize l[k].A = Ak at *
   generalize l[k].cap = ck at *
   have HAX := Lib.hid HAZ.2
   clear HAZ
   go_upto_region 5 with (fail)
   have HQ := HB.new #[.int .i64 x.id, .slice Ak x.ring.length ck, .string x.own] 58
   have HV1 := HV.alloc (.cells #[.int .i64 x.id, .slice Ak x.ring.length ck, .string x.own] 58 (0, 0))
   have HP1 := HP.out.on ((Below.refl _ wr).alloc (Nat.le_refl _) (.cells #[.int .i64 x.id, .slice Ak x.ring.length ck, .string x.own] 58 (0, 0)))
   clear HV HB HP d0 d1 d2
   generalize (World.alloc _ _) = W2 at HQ HV1 HP1 ⊢
   generalize wr.heap.size = gx at HQ ⊢
   obtain ⟨c0, c1, c2⟩ : W2.cell? ⟨gx, 0, none⟩ = some (.int .i64 x.id) ∧ W2.cell? ⟨gx, 1, none⟩ = some (.slice Ak x.ring.length ck) ∧ W2.cell? ⟨gx, 2, none⟩ = some (.string x.own) := ⟨HQ.cell (.head _) 0, HQ.cell (.head _) 1, HQ.cell (.head _) 2⟩
   have HE := Lib.hid (Area_any x.ring Ak ck HAX.out W2 HP1)
   have HVX := Lib.hid HV1
   have HQX := Lib.hid HQ
   clear HP1 HV1 HQ
   go_wp2_with (first
    |(go_at_call 133; go_must (refine HE.out.mono ?_; rintro e' W3 ⟨rfl, hB⟩; have hv3 := HVX.out.on hB; have HV3 := Lib.hid hv3; have HN3 := Lib.hid (hv3.2.lt); have HQ3 := Lib.hid (HQX.out.on hB); clear hB hv3))
    |(at_builtin; go_must (refine append_itemG kindW Tryz.underlying185 (HV3.out.alloc _) (arH x.ring, arL x.ring) 67 #[.int .i64 (arH x.ring), .int .u64 (arL x.ring)] rfl (by have := HLN.out; unfold maxLen; omega) (by have := HLN.out; omega) rfl _ _ rfl rfl 1 (by rw [World.size_alloc]; rfl) ?_; intro v9 w9 HR9 hg9)))
   have HB9 := Lib.hid (Hold.grow (((HQ3.out.tail).alloc _).alloc _) HR9.1 hg9 (fun e he => by rcases List.mem_cons.1 he with rfl | he; exact HNG.out; cases he))
   go_roundg (l.length - (k + 1))
   case measure => have := HGK.out; omega
   case rel => exact ⟨k + 1, by omega, rfl, by go_num, by rw [HT.out]; exact HR9, HB9.out⟩
  ·obtain rfl : k = l.length := by omega
   rw [List.take_length] at HV
   obtain ⟨A1, c1', hv1, HI, -⟩ := HV.items
   subst hv1
   have hlen := areasL_len l
   have HTT := Lib.hid (fun W (h : Below wr.heap.size wr W) => total_any (areasL l) A1 c1' W (by unfold maxLen; omega) (pairs_of (HI.on h)) HWF.out)
   have HQX := Lib.hid HB
   have HRF := Lib.hid (Below.refl wr.heap.size wr)
   obtain ⟨c0, c1⟩ := HB.pt (.head _)
   clear HV HI HB
   clear hlen
   generalize areasL l = ars at *
   go_upto_region 9 with (go_at_call 134; go_must (refine (HTT.out _ HRF.out).mono ?_; rintro e' W3 ⟨rfl, hB⟩; have HQ3 := HQX.out.on hB; clear hB))
   clear c0 c1
   have HQ4 := HQ3.new #[.int .i64 ((tH ars)), .int .u64 ((tL ars))] 67
   clear HQ3
   generalize (World.alloc _ _) = W4 at HQ4 ⊢
   generalize W3.heap.size = g8 at HQ4 ⊢
   obtain ⟨c0, c1⟩ := HQ4.pt (List.mem_cons_of_mem _ List.mem_cons_self)
   have HQ5 := Lib.hid HQ4
   clear HQ4
   go_upto_region 10 with (go_at_call 133; go_must (refine (HA.out _ HQ5.out.1).mono ?_; rintro e' W6 ⟨rfl, hB⟩; have HQ6 := HQ5.out.on hB; clear hB))
   clear c0 c1
   have HQ7 := HQ6.new #[.int .i64 ((arH o)), .int .u64 ((arL o))] 67
   clear HQ6
   generalize (World.alloc _ _) = W7 at HQ7 ⊢
   generalize W6.heap.size = g10 at HQ7 ⊢
   obtain ⟨a0, a1⟩ := HQ7.pt (List.mem_cons_of_mem _ List.mem_cons_self)
   obtain ⟨d0, d1⟩ := HQ7.pt (.head _)
   have HK := Lib.hid HQ7.1
   clear HQ7
   by_cases h1 : tH ars = arH o
   ·have e1 : (tH ars == arH o) = true := by simpa using h1
    by_cases h2 : tL ars = arL o
    ·have e2 : (tL ars == arL o) = true := by simpa using h2
     have HG : Hid (fillB o l = true) := by unfold Hid; rw [HF.out, decide_eq_true h1, decide_eq_true h2]; rfl
     clear h1 h2
     go_wp2
     go_ret
     rw [HG.out]
     exact ⟨rfl, HK.out⟩
    ·have e2 : (tL ars == arL o) = false := by simpa using h2
     have HG : Hid (fillB o l = false) := by unfold Hid; rw [HF.out, decide_eq_false h2]; simp
     clear h1 h2
     go_wp2
     go_ret
     rw [HG.out]
     exact ⟨rfl, HK.out⟩
   ·have e1 : (tH ars == arH o) = false := by simpa using h1
    have HG : Hid (fillB o l = false) := by unfold Hid; rw [HF.out, decide_eq_false h1]; simp
    clear h1
    go_wp2
    go_ret
    rw [HG.out]
    exact ⟨rfl, HK.out⟩
end Go.Proofs.YtjlnjjmomohpaaaGreat
