/- The document's own once: a number more, if it is not there. -/
import Derived.Test.YtjlnjjmomohpaaaGreatPgE
import Derived.Test.YtjlnjjmomohpaaaGreatRefPar
import Derived.Test.YtjlnjjmomohpaaaGreatRefSide
import Derived.Test.YtjlnjjmomohpaaaGreatRefFine
import Derived.Test.YtjlnjjmomohpaaaGreatRingP
namespace Go.Proofs.YtjlnjjmomohpaaaGreat
open Go.RowKit

section
variable {α : Type} {T : TypeId} {enc : α → List Value} {n bytes : Nat} {w0 W W' : World} {v : Value} {l : List α}
theorem append_itemB (K : Kind T enc n bytes) {TS : TypeId} (hT : Tryz.prog.underlying TS = some (.slice T)) (HR : RowI w0 T n enc v l W) (x : α) (t' : TypeId) {cs : Array Value} (hcs : cs.toList = enc x)
  (hn : l.length + 1 ≤ maxLen) (hb : (l.length + 1) * bytes ≤ 140737488355328)
  {ops : Array Oper} {rest : List Oper} {o : Oper} {a : Act} {Q : Exit → Act → World → Prop} (hgd : o.guard = none) (s y : Operand)
  (ho : o.op = .call { callee := .builtin .append, args := #[s, y], argTypes := #[TS, TS] })
  (hs : a.eval s = v) (c : Nat) (hx : a.eval y = .slice (some ⟨W.heap.size, 0, none⟩) 1 c)
  (h : ∀ v' w', RowI w0 T n enc v' (l ++ [x]) w' → (W.alloc (Obj.cells cs t' (0, 0))).grownBy w' v.ownBlock → (v'.ownBlock = v.ownBlock ∨ v'.ownBlock = some (W.heap.size + 1)) → wpList Tryz.prog ops Q rest (a.put o.dst v') w') :
  wpList Tryz.prog ops Q (o :: rest) a (W.alloc (Obj.cells cs t' (0, 0))) := by
 obtain ⟨i0, z, hi, hz0, hz1, hz2, hz3⟩ := K.info
 have hA := HR.alloc (Obj.cells cs t' (0, 0))
 have hnew := heap_alloc_new W (Obj.cells cs t' (0, 0))
 refine wpList_append_own_at _ hgd s y TS ho w0.heap.size T i0 z n bytes hT hi hz0 hz1 hz2 hz3 K.pos v l.length (l.flatMap enc) hs hA.2 ⟨W.heap.size, 0, none⟩ 1 c (enc x) hx (by rw [K.len, Nat.one_mul]) ?_ (K.one x) hn hb hA.1.size ?_
 ·intro j u hu
  rw [add_off, blk_cell hnew, ← hu, ← hcs, Array.getElem?_toList]
 ·intro v' w' hown hgrow _ hat
  refine h v' w' ⟨grownB hA.1 (Nat.le_refl _) hgrow (fun k hk => (hA.2.lt k hk).1), ?_⟩ hgrow (by rw [World.size_alloc] at hat; exact hat)
  rw [List.length_append, List.flatMap_append, List.flatMap_cons, List.flatMap_nil, List.append_nil]
  exact hown
end
def onceL (l : List Int) (id : Int) : List Int := if id ∈ l then l else l ++ [id]
theorem mem_once {l : List Int} {id n : Int} : n ∈ onceL l id ↔ n ∈ l ∨ n = id := by
 unfold onceL; split
 ·exact ⟨.inl, fun h => h.elim (fun h => h) (fun h => h ▸ ‹_›)⟩
 ·rw [List.mem_append, List.mem_singleton]
theorem once_nodup {l : List Int} {id : Int} (h : l.Nodup) : (onceL l id).Nodup := by
 unfold onceL; split
 ·exact h
 ·exact List.nodup_append.2 ⟨h, by simp, fun a ha b hb e => by rw [List.mem_singleton.1 hb] at e; exact absurd (e ▸ ha) ‹_›⟩
theorem once_len {l : List Int} {id : Int} : (onceL l id).length ≤ l.length + 1 := by
 unfold onceL; split <;> simp
set_option maxRecDepth 100000 in
set_option maxHeartbeats 1000000 in
theorem ref_once (l : List Int) (id : Int) (w0 W : World) (v : Value) (hn : l.length ≤ 1000000) (hv : RowI w0 3 1 encN v l W) :
  Calls Tryz.prog 56 #[v, .int .i64 id] W fun e W' => ∃ v', e = .returned v' ∧ RowI w0 3 1 encN v' (onceL l id) W' ∧ W.grownBy W' v.ownBlock := by
 obtain ⟨A, c, rfl, hi, -⟩ := hv.items
 have HV := Lib.hid hv
 have HI := Lib.hid hi
 have HN := Lib.hid hn
 clear hv hi hn
 go_enter Tryz.func56, Tryz.ntmps56
 go_wp2_with fail
 go_loopg [5] l.length (fun g i wr => ∃ k : Nat, k ≤ l.length ∧ g = l.length - k ∧ i = .int .i64 k ∧ id ∉ l.take k ∧ W = wr)
 case atStart => exact ⟨0, Nat.zero_le _, rfl, rfl, by simp, rfl⟩
 case round =>
  obtain ⟨k, hk, hgk, rfl, hno, rfl⟩ := hrel
  have HGK := Lib.hid hgk
  have HNO := Lib.hid hno
  clear hgk hno
  have b9 : (l.length : Int) ≤ 1000000 := by have := HN.out; omega
  by_cases hlt : k < l.length
  ·obtain ⟨ad, rfl, -, hc0, -⟩ := HI.out.at kindN.len hlt
   have d0 := hc0 _ (by decide) rfl
   rw [Nat.mul_one] at d0
   have HM : Hid (l[k] ∈ l) := List.getElem_mem hlt
   have HT : Hid (l.take (k + 1) = l.take k ++ [l[k]]) := List.take_succ_eq_append_getElem hlt
   have b0 : (0 : Int) ≤ (k : Int) := by omega
   have b1 : (k : Int) < (l.length : Int) := by omega
   clear hc0
   generalize l[k] = a at *
   by_cases h : a = id
   ·have HE : Hid (onceL l id = l) := by unfold Hid onceL; rw [if_pos (h ▸ HM.out)]
    have e1 : (a == id) = true := by simpa using h
    clear h HT HNO
    go_wp2
    go_ret
    exact ⟨_, rfl, by rw [HE.out]; exact HV.out, World.grownBy.refl _ _⟩
   ·have HX : Hid (id ∉ l.take (k + 1)) := by
     unfold Hid
     rw [HT.out, List.mem_append, List.mem_singleton]
     rintro (h1 | h1)
     ·exact HNO.out h1
     ·exact h h1.symm
    have e1 : (a == id) = false := by simpa using h
    clear h HT HNO
    go_wp2
    go_roundg (l.length - (k + 1))
    case measure => have := HGK.out; omega
    case rel => exact ⟨k + 1, by omega, rfl, by go_num, HX.out, rfl⟩
  ·obtain rfl : k = l.length := by omega
   have HE : Hid (onceL l id = l ++ [id]) := by
    have := HNO.out
    rw [List.take_length] at this
    unfold Hid onceL; rw [if_neg this]
   clear HNO HI
   go_wp2_with (at_builtin; go_must (refine append_itemB kindN Tryz.underlying50 HV.out id 3 (cs := #[.int .i64 id]) rfl (by have := HN.out; unfold maxLen; omega) (by have := HN.out; omega) rfl _ _ rfl rfl 1 rfl ?_; intro v9 w9 hr9 hg9 ha9; have HR9 := Lib.hid hr9; have HG9 := Lib.hid ((World.grownBy_alloc _ _ _).trans hg9); clear hr9 hg9 ha9))
   go_ret
   exact ⟨_, rfl, by rw [HE.out]; exact HR9.out, HG9.out⟩
end Go.Proofs.YtjlnjjmomohpaaaGreat

namespace Go.Proofs.YtjlnjjmomohpaaaGreat

def firstQ (ps : List Par) (id : Int) : Option Par := ps.find? fun x => x.id == id
def idsQ (ps : List Par) : List Int := ps.map Par.id
def ChP (ps qs : List Par) (id : Int) : Prop := (id ∈ idsQ ps ∨ id ∈ idsQ qs) ∧ ¬ ∃ a, firstQ ps id = some a ∧ firstQ qs id = some a
theorem ChP.swap {ps qs : List Par} {id : Int} (h : ChP ps qs id) : ChP qs ps id := ⟨h.1.symm, fun ⟨a, h1, h2⟩ => h.2 ⟨a, h2, h1⟩⟩
theorem firstQ_some {ps : List Par} {id : Int} (h : id ∈ idsQ ps) : ∃ a, firstQ ps id = some a := by
 obtain ⟨x, hx, e⟩ := List.mem_map.1 h
 unfold firstQ
 cases hf : ps.find? fun x => x.id == id with
 |some a => exact ⟨a, rfl⟩
 |none => exact absurd (List.find?_eq_none.1 hf x hx) (by simp [e])
theorem firstQ_none {ps : List Par} {id : Int} (h : id ∉ idsQ ps) : firstQ ps id = none := by
 unfold firstQ
 rw [List.find?_eq_none]
 intro x hx
 simp only [beq_iff_eq]
 exact fun e => h (List.mem_map.2 ⟨x, hx, e⟩)
theorem firstQ_id {ps : List Par} {id : Int} {a : Par} (h : firstQ ps id = some a) : a.id = id ∧ a ∈ ps := by
 unfold firstQ at h
 exact ⟨by simpa using List.find?_some h, List.mem_of_find?_eq_some h⟩
theorem firstQ_at {ps : List Par} {id : Int} {k : Nat} {x : Par} (hx : ps[k]? = some x) (hid : x.id = id) (hno : ∀ j, j < k → ∀ y, ps[j]? = some y → y.id ≠ id) : firstQ ps id = some x := by
 unfold firstQ
 rw [List.find?_eq_some_iff_getElem]
 obtain ⟨hk, e⟩ := List.getElem?_eq_some_iff.1 hx
 refine ⟨by simpa using hid, k, hk, e, fun j hj => ?_⟩
 have := hno j hj ps[j] (List.getElem?_eq_getElem (by omega))
 simpa using this
end Go.Proofs.YtjlnjjmomohpaaaGreat

namespace Go.Proofs.YtjlnjjmomohpaaaGreat

def swp (M : List Int) (j : Nat) : List Int := (M.set j (M.getD (j - 1) 0)).set (j - 1) (M.getD j 0)
theorem swp_get {M : List Int} {j : Nat} (h0 : 0 < j) (h1 : j < M.length) (a : Nat) : (swp M j)[a]? = if a = j - 1 then M[j]? else if a = j then M[j - 1]? else M[a]? := by
 unfold swp
 rw [List.getElem?_set, List.length_set]
 by_cases e : j - 1 = a
 ·rw [if_pos e, if_pos (by omega), if_pos e.symm, List.getD_eq_getElem?_getD, List.getElem?_eq_getElem h1]; rfl
 ·rw [if_neg e, if_neg (fun h => e h.symm), List.getElem?_set]
  by_cases e2 : j = a
  ·rw [if_pos e2, if_pos h1, if_pos e2.symm, List.getD_eq_getElem?_getD, List.getElem?_eq_getElem (show j - 1 < M.length by omega)]; rfl
  ·rw [if_neg e2, if_neg (fun h => e2 h.symm)]
theorem swp_perm {M : List Int} {j : Nat} (h0 : 0 < j) (h1 : j < M.length) : (swp M j).Perm M := by
 have h2 : j - 1 < M.length := by omega
 have e1 : M.getD (j - 1) 0 = M[j - 1] := by rw [List.getD_eq_getElem?_getD, List.getElem?_eq_getElem h2]; rfl
 have e2 : M.getD j 0 = M[j] := by rw [List.getD_eq_getElem?_getD, List.getElem?_eq_getElem h1]; rfl
 unfold swp
 rw [e1, e2]
 exact List.set_set_perm h1 h2
def RisesTo (M : List Int) (n : Nat) : Prop := ∀ a b, a < b → b < n → ∀ x y, M[a]? = some x → M[b]? = some y → x < y
def Slides (M : List Int) (i j : Nat) : Prop := (∀ a b, a < b → b ≤ i → a ≠ j → b ≠ j → ∀ x y, M[a]? = some x → M[b]? = some y → x < y) ∧ ∀ b, j < b → b ≤ i → ∀ x y, M[j]? = some x → M[b]? = some y → x < y
theorem slides_start {M : List Int} {i : Nat} (h : RisesTo M i) : Slides M i i := ⟨fun a b hab hb ha hbj x y hx hy => h a b hab (by omega) x y hx hy, fun b h1 h2 => absurd h1 (by omega)⟩
theorem slides_step {M : List Int} {i j : Nat} (h : Slides M i j) (h0 : 0 < j) (hj : j ≤ i) (hi : i < M.length) {u v : Int} (hu : M[j - 1]? = some u) (hv : M[j]? = some v) (hlt : v < u) : Slides (swp M j) i (j - 1) := by
 obtain ⟨h1, h2⟩ := h
 have hg := fun a => swp_get (M := M) h0 (by omega) a
 constructor
 ·intro a b hab hb ha hbj x y hx hy
  rw [hg, if_neg ha] at hx
  rw [hg, if_neg hbj] at hy
  by_cases ea : a = j
  ·rw [if_pos ea] at hx
   rw [if_neg (by omega)] at hy
   exact h1 (j - 1) b (by omega) hb (by omega) (by omega) x y hx hy
  ·rw [if_neg ea] at hx
   by_cases eb : b = j
   ·rw [if_pos eb] at hy
    exact h1 a (j - 1) (by omega) (by omega) ea (by omega) x y hx hy
   ·rw [if_neg eb] at hy
    exact h1 a b hab hb ea eb x y hx hy
 ·intro b hb hbi x y hx hy
  rw [hg, if_pos rfl] at hx
  rw [hg, if_neg (by omega)] at hy
  have ex := Option.some.inj (hv.symm.trans hx)
  by_cases eb : b = j
  ·rw [if_pos eb] at hy
   have ey := Option.some.inj (hu.symm.trans hy)
   omega
  ·rw [if_neg eb] at hy
   exact h2 b (by omega) hbi x y hx hy
theorem slides_end {M : List Int} {i j : Nat} (h : Slides M i j) (hj : j ≤ i) (hl : j = 0 ∨ ∃ u v, M[j - 1]? = some u ∧ M[j]? = some v ∧ u < v) : RisesTo M (i + 1) := by
 obtain ⟨h1, h2⟩ := h
 intro a b hab hb x y hx hy
 by_cases eb : b = j
 ·subst eb
  rcases hl with rfl | ⟨u, v, hu, hv, huv⟩
  ·omega
  ·obtain rfl := Option.some.inj (hv.symm.trans hy)
   by_cases ea : a = b - 1
   ·subst ea
    obtain rfl := Option.some.inj (hu.symm.trans hx)
    exact huv
   ·have := h1 a (b - 1) (by omega) (by omega) (by omega) (by omega) x u hx hu
    omega
 ·by_cases ea : a = j
  ·subst ea
   exact h2 b hab (by omega) x y hx hy
  ·exact h1 a b hab (by omega) ea eb x y hx hy
theorem rises_all {M : List Int} (h : RisesTo M M.length) : M.Pairwise (· < ·) := by
 rw [List.pairwise_iff_getElem]
 intro i j hi hj hij
 exact h i j hij hj _ _ (List.getElem?_eq_getElem hi) (List.getElem?_eq_getElem hj)
theorem nodup_next {M : List Int} (h : M.Nodup) {j : Nat} {u v : Int} (h0 : 0 < j) (hu : M[j - 1]? = some u) (hv : M[j]? = some v) (hle : ¬ v < u) : u < v := by
 obtain ⟨h1, e1⟩ := List.getElem?_eq_some_iff.1 hu
 obtain ⟨h2, e2⟩ := List.getElem?_eq_some_iff.1 hv
 have hne : u ≠ v := fun e => by
  have := (List.pairwise_iff_getElem.1 h) (j - 1) j h1 h2 (by omega)
  exact this (by rw [e1, e2, e])
 omega
end Go.Proofs.YtjlnjjmomohpaaaGreat

namespace Go.Proofs.YtjlnjjmomohpaaaGreat
open Go.RowKit

end Go.Proofs.YtjlnjjmomohpaaaGreat

namespace Go.Proofs.YtjlnjjmomohpaaaGreat
open Go.RowKit

end Go.Proofs.YtjlnjjmomohpaaaGreat

namespace Go.Proofs.YtjlnjjmomohpaaaGreat
open Go.RowKit

theorem par_ext (a b : Par) : a = b ↔ a.id = b.id ∧ a.own = b.own ∧ a.ring = b.ring := by
 constructor
 ·rintro rfl; exact ⟨rfl, rfl, rfl⟩
 ·rintro ⟨h1, h2, h3⟩
  cases a; cases b
  simp only at h1 h2 h3
  rw [h1, h2, h3]
theorem bytes_eq {s t : ByteArray} (h : s.toList = t.toList) : s = t := by
 rw [ByteArray.toList_eq, ByteArray.toList_eq] at h
 cases s; cases t
 exact congrArg _ (Array.toList_inj.1 h)
noncomputable instance : DecidableEq Par := fun a b => decidable_of_iff _ (par_ext a b).symm
set_option maxRecDepth 100000 in
set_option maxHeartbeats 1000000 in
theorem ref_samePar (i1 : Int) (r1 : List (Int × Int)) (s1 : ByteArray) (A1 : Option Addr) (c1 : Nat) (i2 : Int) (r2 : List (Int × Int)) (s2 : ByteArray) (A2 : Option Addr) (c2 : Nat) (hn : r1.length ≤ maxLen) (w : World) (h1 : Pts w w.heap.size A1 r1) (h2 : Pts w w.heap.size A2 r2) :
  Calls Tryz.prog 50 #[.agg #[.int .i64 i1, .slice A1 r1.length c1, .string s1], .agg #[.int .i64 i2, .slice A2 r2.length c2, .string s2]] w fun e w' => e = .returned (.bool (decide ((⟨i1, r1, s1⟩ : Par) = ⟨i2, r2, s2⟩))) ∧ Below w.heap.size w w' := by
 have HQ := ((Hold.refl w).new #[.int .i64 i1, .slice A1 r1.length c1, .string s1] 58).new #[.int .i64 i2, .slice A2 r2.length c2, .string s2] 58
 have HSM := Lib.hid (fun W (hb : Below w.heap.size w W) => ref_same r1 r2 A1 A2 c1 c2 hn W (h1.on hb) (h2.on hb))
 clear h1 h2 hn
 have HD : Hid (decide ((⟨i1, r1, s1⟩ : Par) = ⟨i2, r2, s2⟩) = (decide (i1 = i2) && decide (s1 = s2) && decide (r1 = r2))) := by
  unfold Hid
  rw [Bool.eq_iff_iff, decide_eq_true_iff, Bool.and_eq_true, Bool.and_eq_true, decide_eq_true_iff, decide_eq_true_iff, decide_eq_true_iff, par_ext]
  exact ⟨fun ⟨a, b, c⟩ => ⟨⟨a, b⟩, c⟩, fun ⟨⟨a, b⟩, c⟩ => ⟨a, b, c⟩⟩
 go_enter Tryz.func50, Tryz.ntmps50
 go_upto_region 1 with (fail)
 simp only [World.size_alloc] at HQ
 generalize (World.alloc _ _) = W1 at HQ ⊢
 obtain ⟨g1, hg1⟩ : ∃ g, w.heap.size + 1 = g := ⟨_, rfl⟩
 rw [hg1] at HQ ⊢
 obtain ⟨g0, hg0⟩ : ∃ g, w.heap.size = g := ⟨_, rfl⟩
 rw [hg0] at HQ ⊢
 clear hg1 hg0
 obtain ⟨a0, a1, a2⟩ := HQ.q3 (.tail _ (.head _))
 obtain ⟨b0, b1, b2⟩ := HQ.q3 (.head _)
 have HB := Lib.hid HQ.1
 clear HQ
 by_cases e1 : i1 = i2
 ·by_cases e2 : s1 = s2
  ·subst e1; subst e2
   go_wp2_with (go_at_call 22; go_must (refine (HSM.out _ HB.out).mono ?_; rintro e' W2 ⟨rfl, hB⟩; have HB2 := Lib.hid (HB.out.trans (hB.mono HB.out.size)); clear hB))
   go_ret
   rw [HD.out]
   exact ⟨by simp, HB2.out⟩
  ·have f1 : (i1 == i2) = true := by simpa using e1
   have f2 : (s1.toList == s2.toList) = false := by
    rw [Bool.eq_false_iff]; intro h; exact e2 (bytes_eq (eq_of_beq h))
   have HE : Hid (decide ((⟨i1, r1, s1⟩ : Par) = ⟨i2, r2, s2⟩) = false) := by unfold Hid; rw [HD.out, decide_eq_false e2, Bool.and_false, Bool.false_and]
   clear e1 e2 HD
   go_wp2
   go_ret
   rw [HE.out]
   exact ⟨rfl, HB.out⟩
 ·have f1 : (i1 == i2) = false := by simpa using e1
  have HE : Hid (decide ((⟨i1, r1, s1⟩ : Par) = ⟨i2, r2, s2⟩) = false) := by unfold Hid; rw [HD.out, decide_eq_false e1, Bool.false_and, Bool.false_and]
  clear e1 HD
  go_wp2
  go_ret
  rw [HE.out]
  exact ⟨rfl, HB.out⟩

section
variable {l l' : List PV}
end
end Go.Proofs.YtjlnjjmomohpaaaGreat

namespace Go.Proofs.YtjlnjjmomohpaaaGreat
open Go.RowKit

theorem plc_ids {l : List PV} {id n : Int} (h : Plc (l.map fun x => x.par.id) id n) : (n = -1 ∧ id ∉ idsQ (l.map PV.par)) ∨ ∃ (k : Nat) (hk : k < l.length), n = k ∧ l[k].par.id = id ∧ firstQ (l.map PV.par) id = some l[k].par := by
 have e : (l.map fun x => x.par.id) = idsQ (l.map PV.par) := by unfold idsQ; rw [List.map_map]; rfl
 rcases h with ⟨h1, h2⟩ | ⟨k, h1, h2, h3⟩
 ·exact .inl ⟨h1, by rw [← e]; exact h2⟩
 ·rw [List.getElem?_map] at h2
  cases hy : l[k]? with
  |none => rw [hy] at h2; cases h2
  |some y =>
   rw [hy] at h2
   obtain ⟨hk, ey⟩ := List.getElem?_eq_some_iff.1 hy
   have hid : y.par.id = id := Option.some.inj h2
   refine .inr ⟨k, hk, h1, by rw [ey]; exact hid, ?_⟩
   rw [ey]
   refine firstQ_at (k := k) (by rw [List.getElem?_map, hy]; rfl) hid fun j hj z hz e => ?_
   rw [List.getElem?_map] at hz
   cases hw : l[j]? with
   |none => rw [hw] at hz; cases hz
   |some u =>
    rw [hw] at hz
    refine h3 j hj ?_
    rw [List.getElem?_map, hw]
    exact congrArg some ((congrArg Par.id (Option.some.inj hz)).trans e)
theorem first_such {P : Nat → Prop} (n : Nat) (h : P n) : ∃ j, P j ∧ ∀ i, i < j → ¬ P i := by
 induction n using Nat.strongRecOn with
 |ind n ih =>
  by_cases hx : ∃ i, i < n ∧ P i
  ·obtain ⟨i, hi, hp⟩ := hx
   exact ih i hi hp
  ·exact ⟨n, h, fun i hi hp => hx ⟨i, hi, hp⟩⟩
theorem first_place {l : List PV} {k : Nat} (hk : k < l.length) : ∃ j : Nat, j < l.length ∧ ∀ n, Plc (l.map fun x => x.par.id) l[k].par.id n → n = j := by
 have hm : l[k].par.id ∈ l.map fun x => x.par.id := List.mem_map.2 ⟨_, List.getElem_mem hk, rfl⟩
 obtain ⟨j, hj, e, hno⟩ : ∃ j : Nat, j < l.length ∧ (l.map fun x => x.par.id)[j]? = some l[k].par.id ∧ ∀ i : Nat, i < j → (l.map fun x => x.par.id)[i]? ≠ some l[k].par.id := by
  have : ∃ j : Nat, (l.map fun x => x.par.id)[j]? = some l[k].par.id := by
   obtain ⟨j, hj, e⟩ := List.getElem_of_mem hm
   exact ⟨j, by rw [List.getElem?_eq_getElem hj, e]⟩
  obtain ⟨j0, hj0⟩ := this
  obtain ⟨j, h1, h2⟩ := first_such (P := fun j => (l.map fun x => x.par.id)[j]? = some l[k].par.id) j0 hj0
  refine ⟨j, ?_, h1, h2⟩
  obtain ⟨h3, -⟩ := List.getElem?_eq_some_iff.1 h1
  rw [List.length_map] at h3
  exact h3
 refine ⟨j, hj, fun n hn => ?_⟩
 rcases hn with ⟨_, h⟩ | ⟨i, rfl, h1, h2⟩
 ·exact absurd hm h
 ·rcases Nat.lt_trichotomy i j with h | h | h
  ·exact absurd h1 (hno i h)
  ·rw [h]
  ·exact absurd e (h2 j h)

theorem row_blockN {W : World} {B e sz n g : Nat} {v : Value} {xs : List Value} {cs : Array Value} {t : TypeId} (h : W.ownsRow B e sz v n xs) (hg : W.heap[g]? = some (Obj.cells cs t (0, 0))) (ht : t ≠ e) : v.ownBlock ≠ some g := fun e' => by
 rcases h.2 with ⟨rfl, _⟩ | ⟨k, cap, cur, rfl, _, hh, _⟩
 ·cases e'
 ·obtain rfl : k = g := Option.some.inj e'
  rw [hh] at hg
  cases hg
  exact ht rfl
theorem RowI.putN {w0 W : World} {g n cap : Nat} {l : List Int} (h : RowI w0 3 1 encN (.slice (some ⟨g, 0, none⟩) n cap) l W) (i : Nat) (x : Int) : RowI w0 3 1 encN (.slice (some ⟨g, 0, none⟩) n cap) (l.set i x) (W.setCell ⟨g, i, none⟩ (.int .i64 x)) := by
 have he : ∀ (l : List Int) (i : Nat), (l.set i x).flatMap encN = (l.flatMap encN).set i (.int .i64 x) := fun l => by
  induction l with
  |nil => intro i; simp
  |cons a l ih =>
   intro i
   cases i with
   |zero => simp [encN]
   |succ i => rw [List.set_cons_succ, List.flatMap_cons, List.flatMap_cons, ih]; simp [encN]
 obtain ⟨hB, hl, h2⟩ := h
 rcases h2 with ⟨e, -⟩ | ⟨g', cap', cur, e, hb, hh, h3, h4, h5, h6⟩
 ·cases e
 ·obtain ⟨e1, e2, e3⟩ := Value.slice.inj e
  obtain rfl : g = g' := by simpa using e1
  subst e3
  refine ⟨hB.setCell (p := ⟨g, i, none⟩) hb _, ?_, .inr ⟨g, cap, cur.setIfInBounds i (.int .i64 x), ?_, hb, ?_, ?_, h4, ?_, ?_⟩⟩
  ·rw [he, List.length_set, hl, List.length_set]
  ·rw [List.length_set, e2]
  ·simp [World.setCell, Array.getElem?_modify, hh]
  ·rw [List.length_set]; exact h3
  ·simp [h5]
  ·rw [he, List.length_set, ← h6]
   simp [List.take_set]
theorem RowI.cellN {w0 W : World} {g n cap : Nat} {l : List Int} (h : RowI w0 3 1 encN (.slice (some ⟨g, 0, none⟩) n cap) l W) {i : Nat} {x : Int} (hx : l[i]? = some x) : W.cell? ⟨g, i, none⟩ = some (.int .i64 x) ∧ W.frozen? ⟨g, i, none⟩ = false := by
 obtain ⟨hi, e⟩ := List.getElem?_eq_some_iff.1 hx
 have hf : W.frozen? ⟨g, i, none⟩ = false := by
  rcases h.2.2 with ⟨e, -⟩ | ⟨g', cap', cur, e, hb, hh, -⟩
  ·cases e
  ·obtain rfl : g = g' := by simpa using (Value.slice.inj e).1
   exact blk_frozen hh i
 obtain ⟨A, c, hv, hit, -⟩ := h.items
 obtain ⟨ad, hA, -, hc, -⟩ := hit.at kindN.len hi
 obtain rfl : A = some ⟨g, 0, none⟩ := (Value.slice.inj hv).1.symm
 obtain rfl := Option.some.inj hA
 have := hc _ (by decide) rfl
 rw [Nat.mul_one, add_off, e] at this
 exact ⟨this, hf⟩
theorem RowI.block {w0 W : World} {v : Value} {l : List Int} (h : RowI w0 3 1 encN v l W) (hl : l ≠ []) : ∃ g cap, v = .slice (some ⟨g, 0, none⟩) l.length cap := by
 rcases h.2.2 with ⟨-, h0⟩ | ⟨g, cap, cur, rfl, -⟩
 ·exact absurd (List.length_eq_zero_iff.1 h0) hl
 ·exact ⟨g, cap, rfl⟩
theorem Hold.grew {w W W' : World} {L : List (Nat × Array Value × TypeId)} {v v' : Value} {l l' : List Int} (h : Hold w L W) (hl : RowI w 3 1 encN v l W) (h1 : RowI w 3 1 encN v' l' W') (hg : W.grownBy W' v.ownBlock) (ht : ∀ e ∈ L, e.2.2 ≠ 3) : Hold w L W' :=
 h.grow h1.1 hg fun e he => row_blockN hl.2 (h.2.1 e he).1 (ht e he)
def OutP (ps qs : List Par) (k : Nat) (L : List Int) : Prop := L.Nodup ∧ L.length ≤ k ∧ ∀ n, n ∈ L ↔ (∃ (j : Nat) (x : Par), j < k ∧ ps[j]? = some x ∧ x.id = n) ∧ ¬ ∃ a, firstQ ps n = some a ∧ firstQ qs n = some a
theorem outP_zero (ps qs : List Par) : OutP ps qs 0 [] := ⟨List.nodup_nil, Nat.le_refl _, fun n => ⟨fun h => (by cases h), fun ⟨⟨j, _, hj, _⟩, _⟩ => absurd hj (by omega)⟩⟩
theorem outP_yes {ps qs : List Par} {k : Nat} {L : List Int} {x : Par} (h : OutP ps qs k L) (hx : ps[k]? = some x) (hd : ¬ ∃ a, firstQ ps x.id = some a ∧ firstQ qs x.id = some a) : OutP ps qs (k + 1) (onceL L x.id) := by
 refine ⟨once_nodup h.1, Nat.le_trans once_len (by have := h.2.1; omega), fun n => ?_⟩
 rw [mem_once, h.2.2 n]
 constructor
 ·rintro (⟨⟨j, y, hj, hy, e⟩, h2⟩ | rfl)
  ·exact ⟨⟨j, y, by omega, hy, e⟩, h2⟩
  ·exact ⟨⟨k, x, by omega, hx, rfl⟩, hd⟩
 ·rintro ⟨⟨j, y, hj, hy, e⟩, h2⟩
  by_cases ej : j = k
  ·subst ej
   obtain rfl := Option.some.inj (hx.symm.trans hy)
   exact .inr e.symm
  ·exact .inl ⟨⟨j, y, by omega, hy, e⟩, h2⟩
theorem outP_no {ps qs : List Par} {k : Nat} {L : List Int} {x : Par} (h : OutP ps qs k L) (hx : ps[k]? = some x) (hd : ∃ a, firstQ ps x.id = some a ∧ firstQ qs x.id = some a) : OutP ps qs (k + 1) L := by
 refine ⟨h.1, by have := h.2.1; omega, fun n => ?_⟩
 rw [h.2.2 n]
 constructor
 ·rintro ⟨⟨j, y, hj, hy, e⟩, h2⟩
  exact ⟨⟨j, y, by omega, hy, e⟩, h2⟩
 ·rintro ⟨⟨j, y, hj, hy, e⟩, h2⟩
  by_cases ej : j = k
  ·subst ej
   obtain rfl := Option.some.inj (hx.symm.trans hy)
   rw [← e] at h2
   exact absurd hd h2
  ·exact ⟨⟨j, y, by omega, hy, e⟩, h2⟩
def OutQ (ps qs : List Par) (k : Nat) (L : List Int) : Prop := L.Nodup ∧ L.length ≤ ps.length + k ∧ ∀ n, n ∈ L ↔ (n ∈ idsQ ps ∨ ∃ (j : Nat) (x : Par), j < k ∧ qs[j]? = some x ∧ x.id = n) ∧ ¬ ∃ a, firstQ ps n = some a ∧ firstQ qs n = some a
theorem outQ_zero {ps qs : List Par} {L : List Int} (h : OutP ps qs ps.length L) : OutQ ps qs 0 L := by
 refine ⟨h.1, h.2.1, fun n => ?_⟩
 rw [h.2.2 n]
 constructor
 ·rintro ⟨⟨j, y, _, hy, e⟩, h2⟩
  exact ⟨.inl (List.mem_map.2 ⟨y, List.mem_of_getElem? hy, e⟩), h2⟩
 ·rintro ⟨h1 | ⟨j, _, hj, _⟩, h2⟩
  ·obtain ⟨y, hy, e⟩ := List.mem_map.1 h1
   obtain ⟨j, hj, ey⟩ := List.getElem_of_mem hy
   exact ⟨⟨j, y, hj, by rw [List.getElem?_eq_getElem hj, ey], e⟩, h2⟩
  ·exact absurd hj (by omega)
theorem outQ_yes {ps qs : List Par} {k : Nat} {L : List Int} {x : Par} (h : OutQ ps qs k L) (hx : qs[k]? = some x) (hd : x.id ∉ idsQ ps) : OutQ ps qs (k + 1) (onceL L x.id) := by
 refine ⟨once_nodup h.1, Nat.le_trans once_len (by have := h.2.1; omega), fun n => ?_⟩
 rw [mem_once, h.2.2 n]
 constructor
 ·rintro (⟨h1 | ⟨j, y, hj, hy, e⟩, h2⟩ | rfl)
  ·exact ⟨.inl h1, h2⟩
  ·exact ⟨.inr ⟨j, y, by omega, hy, e⟩, h2⟩
  ·exact ⟨.inr ⟨k, x, by omega, hx, rfl⟩, fun ⟨a, ha, _⟩ => by rw [firstQ_none hd] at ha; cases ha⟩
 ·rintro ⟨h1 | ⟨j, y, hj, hy, e⟩, h2⟩
  ·exact .inl ⟨.inl h1, h2⟩
  ·by_cases ej : j = k
   ·subst ej
    obtain rfl := Option.some.inj (hx.symm.trans hy)
    exact .inr e.symm
   ·exact .inl ⟨.inr ⟨j, y, by omega, hy, e⟩, h2⟩
theorem outQ_no {ps qs : List Par} {k : Nat} {L : List Int} {x : Par} (h : OutQ ps qs k L) (hx : qs[k]? = some x) (hd : x.id ∈ idsQ ps) : OutQ ps qs (k + 1) L := by
 refine ⟨h.1, by have := h.2.1; omega, fun n => ?_⟩
 rw [h.2.2 n]
 constructor
 ·rintro ⟨h1 | ⟨j, y, hj, hy, e⟩, h2⟩
  ·exact ⟨.inl h1, h2⟩
  ·exact ⟨.inr ⟨j, y, by omega, hy, e⟩, h2⟩
 ·rintro ⟨h1 | ⟨j, y, hj, hy, e⟩, h2⟩
  ·exact ⟨.inl h1, h2⟩
  ·by_cases ej : j = k
   ·subst ej
    obtain rfl := Option.some.inj (hx.symm.trans hy)
    exact ⟨.inl (e ▸ hd), h2⟩
   ·exact ⟨.inr ⟨j, y, by omega, hy, e⟩, h2⟩
theorem outQ_all {ps qs : List Par} {L : List Int} (h : OutQ ps qs qs.length L) : L.Nodup ∧ ∀ n, n ∈ L ↔ ChP ps qs n := by
 refine ⟨h.1, fun n => ?_⟩
 rw [h.2.2 n]
 unfold ChP
 constructor
 ·rintro ⟨h1 | ⟨j, y, _, hy, e⟩, h2⟩
  ·exact ⟨.inl h1, h2⟩
  ·exact ⟨.inr (List.mem_map.2 ⟨y, List.mem_of_getElem? hy, e⟩), h2⟩
 ·rintro ⟨h1 | h1, h2⟩
  ·exact ⟨.inl h1, h2⟩
  ·obtain ⟨y, hy, e⟩ := List.mem_map.1 h1
   obtain ⟨j, hj, ey⟩ := List.getElem_of_mem hy
   exact ⟨.inr ⟨j, y, hj, by rw [List.getElem?_eq_getElem hj, ey], e⟩, h2⟩

theorem RowI.drewN {w0 W : World} {v : Value} {l : List Int} (h : RowI w0 3 1 encN v l W) (q : Nat) : RowI w0 3 1 encN v l (W.drewN q) := h.on ⟨rfl, rfl, rfl, Nat.le_refl _, fun _ _ => rfl⟩
theorem plc_neg {l : List PV} {id n : Int} (h : Plc (l.map fun x => x.par.id) id n) : n < 0 ↔ id ∉ idsQ (l.map PV.par) := by
 rcases plc_ids h with ⟨h1, h2⟩ | ⟨k, hk, h1, h2, -⟩
 ·exact ⟨fun _ => h2, fun _ => by omega⟩
 ·exact ⟨fun h => by omega, fun hn => absurd (List.mem_map.2 ⟨_, List.mem_map.2 ⟨_, List.getElem_mem hk, rfl⟩, h2⟩) hn⟩
theorem two_types2 {a c : Nat} {b d : Array Value} {t1 t2 T : TypeId} (h1 : t1 ≠ T) (h2 : t2 ≠ T) : ∀ e ∈ [(a, b, t1), (c, d, t2)], e.2.2 ≠ T := fun e he => by
 rcases List.mem_cons.1 he with rfl | he
 ·exact h1
 ·rw [List.mem_singleton.1 he]; exact h2
def HR (w : World) (L : List (Nat × Array Value × TypeId)) (v : Value) (M : List Int) (W : World) : Prop := Hold w L W ∧ RowI w 3 1 encN v M W
section
variable {w W W' : World} {L : List (Nat × Array Value × TypeId)} {v : Value} {M : List Int} {e : Nat × Array Value × TypeId}
theorem HR.on (h : HR w L v M W) (hb : Below W.heap.size W W') : HR w L v M W' := ⟨h.1.on hb, h.2.on hb⟩
theorem HR.b (h : HR w L v M W) : Below w.heap.size w W := h.1.1
theorem HR.drew (h : HR w L v M W) : HR w L v M W.drew := ⟨h.1.drew, h.2.drew⟩
theorem HR.new (h : HR w L v M W) (cs : Array Value) (t : TypeId) : HR w ((W.heap.size, cs, t) :: L) v M (W.alloc (Obj.cells cs t (0, 0))) := ⟨h.1.new cs t, h.2.alloc _⟩
theorem HR.tail1 (h : HR w (e :: L) v M W) : HR w L v M W := ⟨h.1.tail, h.2⟩
theorem HR.new3 {g : Nat} {x0 x1 x2 : Value} {t : TypeId} (h : HR w ((g, #[x0, x1, x2], t) :: L) v M W) : (W.cell? ⟨g, 0, none⟩ = some x0 ∧ W.cell? ⟨g, 1, none⟩ = some x1 ∧ W.cell? ⟨g, 2, none⟩ = some x2) ∧ W.frozen? ⟨g, 0, none⟩ = false ∧ W.frozen? ⟨g, 1, none⟩ = false ∧ W.frozen? ⟨g, 2, none⟩ = false :=
 ⟨⟨h.1.cell (.head _) 0, h.1.cell (.head _) 1, h.1.cell (.head _) 2⟩, h.1.frozen (.head _) 0, h.1.frozen (.head _) 1, h.1.frozen (.head _) 2⟩
theorem HR.set3 {g : Nat} {x0 x1 x2 : Value} (h : HR w ((g, #[x0, x1, x2], 58) :: L) v M W) (y0 y1 y2 : Value) : HR w ((g, #[y0, y1, y2], 58) :: L) v M (((W.setCell ⟨g, 0, none⟩ y0).setCell ⟨g, 1, none⟩ y1).setCell ⟨g, 2, none⟩ y2) := by
 have hf : ∀ {X : World} {cs : Array Value}, Hold w ((g, cs, 58) :: L) X → RowI w 3 1 encN v M X → ∀ i y, RowI w 3 1 encN v M (X.setCell ⟨g, i, none⟩ y) := fun {X cs} hX hR i y =>
  ⟨(hX.set i y).1, by
   have hne := row_blockN hR.2 (hX.2.1 _ (.head _)).1 (show 58 ≠ 3 by decide)
   refine ⟨hR.2.1, ?_⟩
   rcases hR.2.2 with h0 | ⟨g', cap, cur, rfl, hb, hh, hr⟩
   ·exact .inl h0
   ·exact .inr ⟨g', cap, cur, rfl, hb, (Below.heap_setCell _ _ _ g' (fun e => hne (show some g' = some g by rw [show g' = g from e]))).trans hh, hr⟩⟩
 have h1 := hf h.1 h.2 0 y0
 have h2 := hf (h.1.set 0 y0) h1 1 y1
 have h3 := hf ((h.1.set 0 y0).set 1 y1) h2 2 y2
 exact ⟨((h.1.set 0 y0).set 1 y1).set 2 y2, h3⟩
end
theorem first_here {l : List PV} {k : Nat} (hk : k < l.length) : ∃ (j : Nat) (hj : j < l.length), (∀ n, Plc (l.map fun x => x.par.id) l[k].par.id n → n = j) ∧ l[j].par.id = l[k].par.id ∧ firstQ (l.map PV.par) l[k].par.id = some l[j].par := by
 have hm : l[k].par.id ∈ idsQ (l.map PV.par) := List.mem_map.2 ⟨_, List.mem_map.2 ⟨_, List.getElem_mem hk, rfl⟩, rfl⟩
 have hm' : (l.map fun x => x.par.id)[k]? = some l[k].par.id := by rw [List.getElem?_map, List.getElem?_eq_getElem hk]; rfl
 obtain ⟨j, h1, h2⟩ := first_such (P := fun j => (l.map fun x => x.par.id)[j]? = some l[k].par.id) k hm'
 have hp : Plc (l.map fun x => x.par.id) l[k].par.id j := .inr ⟨j, rfl, h1, h2⟩
 obtain ⟨j', hj', hu⟩ := first_place hk
 rcases plc_ids hp with ⟨h3, _⟩ | ⟨i, hi, h3, h4, h5⟩
 ·omega
 ·have e1 := hu _ hp
  have : i = j' := by omega
  subst this
  exact ⟨i, hi, hu, h4, h5⟩
set_option maxRecDepth 100000 in
set_option maxHeartbeats 4000000 in
theorem ref_changed (o1 : List (Int × Int)) (A1 : Option Addr) (c1 : Nat) (l1 : List PV) (P1 : Option Addr) (d1 : Nat) (o2 : List (Int × Int)) (A2 : Option Addr) (c2 : Nat) (l2 : List PV) (P2 : Option Addr) (d2 : Nat) (hl1 : l1.length ≤ 1000) (hl2 : l2.length ≤ 1000) (w : World) (h1 : Prs w P1 l1) (h2 : Prs w P2 l2) :
  Calls Tryz.prog 21 #[.agg #[.slice A1 o1.length c1, .slice P1 l1.length d1], .agg #[.slice A2 o2.length c2, .slice P2 l2.length d2]] w fun e w' => ∃ v L, e = .returned v ∧ RowI w 3 1 encN v L w' ∧ L.Pairwise (· < ·) ∧ ∀ n, n ∈ L ↔ ChP (l1.map PV.par) (l2.map PV.par) n := by
 have HP1 := Lib.hid (fun W (h : Below w.heap.size w W) => h1.on h)
 have HP2 := Lib.hid (fun W (h : Below w.heap.size w W) => h2.on h)
 have HA1 := Lib.hid (fun id W (h : Below w.heap.size w W) => ref_at o1 A1 c1 l1 P1 d1 id (by omega) W (h1.on h))
 have HA2 := Lib.hid (fun id W (h : Below w.heap.size w W) => ref_at o2 A2 c2 l2 P2 d2 id (by omega) W (h2.on h))
 have HN1 := Lib.hid hl1
 have HN2 := Lib.hid hl2
 have HQ := ((Hold.refl w).new #[.slice A1 o1.length c1, .slice P1 l1.length d1] 26).new' #[.slice A2 o2.length c2, .slice P2 l2.length d2] 26 (n := w.heap.size + 1) (by simp)
 clear h1 h2 hl1 hl2
 go_enter Tryz.func21, Tryz.ntmps21
 go_upto_region 1 with (fail)
 generalize (World.alloc _ _) = W1 at HQ ⊢
 generalize w.heap.size + 1 = g1 at HQ ⊢
 obtain ⟨g0, hg0⟩ : ∃ g, w.heap.size = g := ⟨_, rfl⟩
 have hr0 : HR w [(g1, #[.slice A2 o2.length c2, .slice P2 l2.length d2], 26), (w.heap.size, #[.slice A1 o1.length c1, .slice P1 l1.length d1], 26)] (.slice none 0 0) [] W1 := ⟨HQ, RowI.nil HQ.1⟩
 rw [hg0] at hr0 ⊢
 have HG0 := Lib.hid hg0
 clear HQ hg0
 go_wp2_with fail
 go_loopg [5, 6] l1.length (fun g v i wr => ∃ (k : Nat) (L : List Int), k ≤ l1.length ∧ g = l1.length - k ∧ i = .int .i64 k ∧ OutP (l1.map PV.par) (l2.map PV.par) k L ∧ HR w [(g1, #[.slice A2 o2.length c2, .slice P2 l2.length d2], 26), (g0, #[.slice A1 o1.length c1, .slice P1 l1.length d1], 26)] v L wr)
 case atStart => exact ⟨0, [], Nat.zero_le _, rfl, rfl, outP_zero _ _, hr0⟩
 case round =>
  clear hr0
  obtain ⟨k, L, hk, hgk, rfl, hout, hr⟩ := hrel
  have HGK := Lib.hid hgk
  have HOU := Lib.hid hout
  clear hgk hout
  obtain ⟨A5, c5, rfl, -⟩ := hr.2.items
  have HZ0 := Lib.hid hr
  obtain ⟨c0, c1'⟩ := hr.1.pt (.tail _ (.head _))
  clear hr
  by_cases hlt : k < l1.length
  ·obtain ⟨ad, hA, -⟩ := (HP1.out _ HZ0.out.1.1).at hlt
   obtain ⟨j, hj, hfn, hid, hfq⟩ := first_here hlt
   have hxk : (l1.map PV.par)[k]? = some l1[k].par := by rw [List.getElem?_map, List.getElem?_eq_getElem hlt]; rfl
   have HDK := Lib.hid (fun W (hb : Below w.heap.size w W) => Prs.cells hA (HP1.out _ hb) (List.getElem?_eq_getElem hlt) (Below.refl _ W))
   have HDJ := Lib.hid (fun W (hb : Below w.heap.size w W) => Prs.cells hA (HP1.out _ hb) (List.getElem?_eq_getElem hj) (Below.refl _ W))
   have HPZ := Lib.hid (fun W (hb : Below w.heap.size w W) => ((HP1.out _ hb).2 l1[j] (List.getElem_mem hj)))
   have HYE := Lib.hid (fun h => outP_yes HOU.out hxk h)
   have HNO := Lib.hid (fun h => outP_no HOU.out hxk h)
   have HFN := Lib.hid hfn
   have HAP := Lib.hid (fun W hb => HA1.out l1[k].par.id W hb)
   have HID := Lib.hid hid
   have HFQ := Lib.hid hfq
   have HLB : Hid (L.length ≤ 1000) := by unfold Hid; have := HOU.out.2.1; have := HN1.out; omega
   have b0 : (0 : Int) ≤ (k : Int) := by omega
   have b1 : (k : Int) < (l1.length : Int) := by omega
   have b2 : (0 : Int) ≤ (j : Int) := by omega
   have b3 : (j : Int) < (l1.length : Int) := by omega
   have b9 : (l1.length : Int) ≤ 1000 := by have := HN1.out; omega
   clear hfn hid hfq hxk
   generalize l1[k].par = x at *
   generalize l1[j] = z at *
   generalize hidx : x.id = id at *
   subst hA
   go_upto_region 5 with (fail)
   clear c0 c1'
   have hzz := HZ0.out
   have hKA : ∀ W, HR w [(g1, #[.slice A2 o2.length c2, .slice P2 l2.length d2], 26), (g0, #[.slice A1 o1.length c1, .slice (some ad) l1.length d1], 26)] (.slice A5 L.length c5) L W → ((W.cell? ⟨g0, 0, none⟩ = some (.slice A1 o1.length c1) ∧ W.cell? ⟨g0, 1, none⟩ = some (.slice (some ad) l1.length d1)) ∧ W.cell? (ad.add (k * 3)) = some (.int .i64 id) ∧ W.cell? (ad.add (j * 3)) = some (.int .i64 z.par.id) ∧ W.cell? ⟨(ad.add (j * 3)).block, (ad.add (j * 3)).off + 1, none⟩ = some (.slice z.A z.par.ring.length z.cap) ∧ W.cell? ⟨(ad.add (j * 3)).block, (ad.add (j * 3)).off + 2, none⟩ = some (.string z.par.own)) := fun W h => ⟨h.1.pt (.tail _ (.head _)), (HDK.out W h.1.1).1, HDJ.out W h.1.1⟩
   have HKA := Lib.hid hKA
   clear hKA
   generalize hWz : wr = Wz at *
   have HZ := Lib.hid hzz
   go_cut [7] (fun s7 wx => ∃ g7, s7 = .pointer (some ⟨g7, 0, none⟩) ∧ HR w [(g7, #[.int .i64 z.par.id, .slice z.A z.par.ring.length z.cap, .string z.par.own], 58), (g1, #[.slice A2 o2.length c2, .slice P2 l2.length d2], 26), (g0, #[.slice A1 o1.length c1, .slice (some ad) l1.length d1], 26)] (.slice A5 L.length c5) L wx)
   case first =>
    clear HZ0 hzz HA1 HA2 HP1 HP2 HYE HNO HOU HPZ HID HFQ HDK HDJ
    have hz := HZ.out.drew
    have hz5 := HZ.out
    refine wp_region_held_drew (S := fun W => (W.cell? ⟨g0, 0, none⟩ = some (.slice A1 o1.length c1) ∧ W.cell? ⟨g0, 1, none⟩ = some (.slice (some ad) l1.length d1)) ∧ W.cell? (ad.add (k * 3)) = some (.int .i64 id) ∧ W.cell? (ad.add (j * 3)) = some (.int .i64 z.par.id) ∧ W.cell? ⟨(ad.add (j * 3)).block, (ad.add (j * 3)).off + 1, none⟩ = some (.slice z.A z.par.ring.length z.cap) ∧ W.cell? ⟨(ad.add (j * 3)).block, (ad.add (j * 3)).off + 2, none⟩ = some (.string z.par.own)) (by kernel_rfl) ?_ (fun hHeld => ?_)
    ·(try dsimp only)
     exact HKA.out _ hz
    refine tZ 0 ?_; refine tZ 1 ?_; refine tZ 2 ?_; refine tZ 3 ?_; refine tZ 4 ?_; refine tZ 5 ?_; refine tZ 6 ?_; refine tZ 7 ?_; refine tZ 8 ?_
    refine wpAnyH_ready (rs := [9, 12]) (by decide +kernel) (by simp) ?_
    refine AllReadyH.cons rfl (fun K hK => ?_) (AllReadyH.cons rfl (fun K hK => ?_) AllReadyH.nil)
    ·(try simp only [jA, jB, jC])
     go_simp
     go_at_call 55
     refine (HAP.out _ hz.1.1).mono ?_
     rintro e' W6 ⟨n, rfl, hn, hB⟩
     have hz6 := hz.on hB
     skip
     obtain rfl := HFN.out _ hn
     clear hB hn
     refine hK.out _ _ ?_ (fun hHeld => ?_)
     focus ((try dsimp only); exact HKA.out _ hz6; done)
     clear hK K
     (try simp only [Act.put, jA, jB, jC, jD, jE, jF])
     refine tZ 10 ?_; refine tZ 11 ?_
     refine wpAnyH_ready (rs := [12]) (by decide +kernel) (by simp) ?_
     refine AllReadyH.cons rfl (fun K hK => ?_) AllReadyH.nil
     (try simp only [jA, jB, jC])
     go_simp
     refine hK.out _ _ ?_ (fun hHeld => ?_)
     focus ((try dsimp only); exact HKA.out _ (hz6.new #[.int .i64 0, .slice none 0 0, .string ⟨#[]⟩] 58).tail1; done)
     clear hK K
     (try simp only [Act.put, jA, jB, jC, jD, jE, jF])
     have h7 := hz6.new #[.int .i64 0, .slice none 0 0, .string ⟨#[]⟩] 58
     generalize (World.alloc _ _) = W7 at h7 hHeld ⊢
     generalize W6.heap.size = g7 at h7 ⊢
     obtain ⟨⟨u1, u2, u3⟩, f1, f2, f3⟩ := h7.new3
     refine wpAnyH_ready (rs := [13]) (by decide +kernel) (by simp) ?_
     refine AllReadyH.cons rfl (fun K hK => ?_) AllReadyH.nil
     (try simp only [jA, jB, jC])
     go_simp
     refine hK.out _ _ ?_ (fun hHeld => ?_)
     focus ((try dsimp only); exact HKA.out _ ((h7.set3 (.int .i64 z.par.id) (.slice z.A z.par.ring.length z.cap) (.string z.par.own)).tail1); done)
     clear hK K
     (try simp only [Act.put, jA, jB, jC, jD, jE, jF])
     refine wpAnyH_done (by decide +kernel) ?_ _
     go_wp2_with fail
     go_meet
     exact ⟨_, rfl, h7.set3 (.int .i64 z.par.id) (.slice z.A z.par.ring.length z.cap) (.string z.par.own)⟩
    ·(try simp only [jA, jB, jC])
     go_simp
     refine hK.out _ _ ?_ (fun hHeld => ?_)
     focus ((try dsimp only); exact HKA.out _ (hz.new #[.int .i64 0, .slice none 0 0, .string ⟨#[]⟩] 58).tail1; done)
     clear hK K
     (try simp only [Act.put, jA, jB, jC, jD, jE, jF])
     have h6 := (hz5.new #[.int .i64 0, .slice none 0 0, .string ⟨#[]⟩] 58).drew
     generalize (World.drew (World.alloc _ _)) = Wb at h6 hHeld ⊢
     generalize Wz.heap.size = g7 at h6 ⊢
     refine wpAnyH_ready (rs := [9]) (by decide +kernel) (by simp) ?_
     refine AllReadyH.cons rfl (fun K hK => ?_) AllReadyH.nil
     (try simp only [jA, jB, jC])
     go_simp
     go_at_call 55
     refine (HAP.out _ h6.1.1).mono ?_
     rintro e' W6 ⟨n, rfl, hn, hB⟩
     have hz6 := h6.on hB
     skip
     obtain rfl := HFN.out _ hn
     clear hB hn
     refine hK.out _ _ ?_ (fun hHeld => ?_)
     focus ((try dsimp only); exact HKA.out _ hz6.tail1; done)
     clear hK K
     (try simp only [Act.put, jA, jB, jC, jD, jE, jF])
     refine tZ 10 ?_; refine tZ 11 ?_
     obtain ⟨⟨u1, u2, u3⟩, f1, f2, f3⟩ := hz6.new3
     refine wpAnyH_ready (rs := [13]) (by decide +kernel) (by simp) ?_
     refine AllReadyH.cons rfl (fun K hK => ?_) AllReadyH.nil
     (try simp only [jA, jB, jC])
     go_simp
     refine hK.out _ _ ?_ (fun hHeld => ?_)
     focus ((try dsimp only); exact HKA.out _ ((hz6.set3 (.int .i64 z.par.id) (.slice z.A z.par.ring.length z.cap) (.string z.par.own)).tail1); done)
     clear hK K
     (try simp only [Act.put, jA, jB, jC, jD, jE, jF])
     refine wpAnyH_done (by decide +kernel) ?_ _
     go_wp2_with fail
     go_meet
     exact ⟨_, rfl, hz6.set3 (.int .i64 z.par.id) (.slice z.A z.par.ring.length z.cap) (.string z.par.own)⟩
   case rest =>
    obtain ⟨g7, rfl, hr5⟩ := hcut
    have HR5 := Lib.hid hr5
    obtain ⟨q0, q1⟩ := hr5.1.pt (.tail _ (.head _))
    have i0 := hr5.1.cell (.head _) 0
    simp only [List.getElem?_toArray, List.getElem?_cons_zero] at i0
    clear hr5 HZ HZ0 hzz HKA HAP HFN HDJ HA1
    go_wp2_with fail
    go_at_call 55
    refine (HA2.out z.par.id _ HR5.out.1.1).mono ?_
    rintro e' W6 ⟨n, rfl, hn, hB⟩
    have hr6 := HR5.out.on hB
    have HPL := Lib.hid hn
    clear hB hn q0 q1 i0 HA2
    go_upto_region 7 with (fail)
    go_cut [47] (fun s wx => ∃ b : Bool, s = .bool b ∧ (b = true ↔ ¬ ∃ a, firstQ (l1.map PV.par) id = some a ∧ firstQ (l2.map PV.par) id = some a) ∧ HR w [(g7, #[.int .i64 z.par.id, .slice z.A z.par.ring.length z.cap, .string z.par.own], 58), (g1, #[.slice A2 o2.length c2, .slice P2 l2.length d2], 26), (g0, #[.slice A1 o1.length c1, .slice (some ad) l1.length d1], 26)] (.slice A5 L.length c5) L wx)
    case first =>
     clear HYE HNO HOU HDK
     have hz := hr6.drew
     rcases plc_ids HPL.out with ⟨rfl, hno⟩ | ⟨k2, hk2, rfl, hid2, hfq2⟩
     ·have HFF : Hid (¬ ∃ a, firstQ (l1.map PV.par) id = some a ∧ firstQ (l2.map PV.par) id = some a) := fun ⟨a, _, h2⟩ => by
       rw [HID.out] at hno
       rw [firstQ_none hno] at h2; cases h2
      clear hno HPL HFQ HID HP1 HP2 HPZ
      refine wp_region_held_drew (S := fun _ => True) (by kernel_rfl) trivial (fun hHeld => ?_)
      refine tZ 0 ?_; refine tZ 1 ?_; refine tZ 2 ?_; refine pZ 3 ?_; refine pZ 4 ?_; refine pZ 5 ?_; refine pZ 6 ?_; refine pZ 7 ?_; refine pZ 8 ?_; refine pZ 9 ?_; refine pZ 10 ?_; refine tZ 11 ?_
      refine wpAnyH_done (by decide +kernel) ?_ _
      go_wp2_with fail
      go_meet
      exact ⟨true, rfl, ⟨fun _ => HFF.out, fun _ => rfl⟩, hz⟩
     ·obtain ⟨ad2, hA2, -⟩ := (HP2.out _ hr6.1.1).at hk2
      have HDQ := Lib.hid (fun W (hb : Below w.heap.size w W) => Prs.cells hA2 (HP2.out _ hb) (List.getElem?_eq_getElem hk2) (Below.refl _ W))
      have HPY := Lib.hid (fun W (hb : Below w.heap.size w W) => ((HP2.out _ hb).2 l2[k2] (List.getElem_mem hk2)))
      have HSP := Lib.hid (fun W (hb : Below w.heap.size w W) => ref_samePar z.par.id z.par.ring z.par.own z.A z.cap l2[k2].par.id l2[k2].par.ring l2[k2].par.own l2[k2].A l2[k2].cap (by have := (HPZ.out W hb).2.2; unfold maxLen; omega) W (HPZ.out W hb).1 (HPY.out W hb).1)
      have HFF : Hid ((!decide ((⟨z.par.id, z.par.ring, z.par.own⟩ : Par) = ⟨l2[k2].par.id, l2[k2].par.ring, l2[k2].par.own⟩)) = true ↔ ¬ ∃ a, firstQ (l1.map PV.par) id = some a ∧ firstQ (l2.map PV.par) id = some a) := by
       have e1 : (⟨z.par.id, z.par.ring, z.par.own⟩ : Par) = z.par := rfl
       have e2 : (⟨l2[k2].par.id, l2[k2].par.ring, l2[k2].par.own⟩ : Par) = l2[k2].par := rfl
       rw [HID.out] at hfq2
       unfold Hid
       rw [Bool.not_eq_true', decide_eq_false_iff_not, e1, e2, HFQ.out, hfq2]
       exact ⟨fun h ⟨a, h1, h2⟩ => h ((Option.some.inj h1).trans (Option.some.inj h2).symm), fun h e => h ⟨_, rfl, congrArg some e.symm⟩⟩
      have b4 : (0 : Int) ≤ (k2 : Int) := by omega
      have b5 : (k2 : Int) < (l2.length : Int) := by omega
      have b6 : ¬ (k2 : Int) < 0 := by omega
      clear hid2 hfq2 HPL HFQ HID HP1 HP2 HPZ HPY
      subst hA2
      generalize l2[k2] = y at *
      generalize decide ((⟨z.par.id, z.par.ring, z.par.own⟩ : Par) = ⟨y.par.id, y.par.ring, y.par.own⟩) = dd at *
      have HKB := Lib.hid (fun W (h : HR w [(g7, #[.int .i64 z.par.id, .slice z.A z.par.ring.length z.cap, .string z.par.own], 58), (g1, #[.slice A2 o2.length c2, .slice (some ad2) l2.length d2], 26), (g0, #[.slice A1 o1.length c1, .slice (some ad) l1.length d1], 26)] (.slice A5 L.length c5) L W) => (show (W.cell? ⟨g7, 0, none⟩ = some (.int .i64 z.par.id) ∧ W.cell? ⟨g7, 1, none⟩ = some (.slice z.A z.par.ring.length z.cap) ∧ W.cell? ⟨g7, 2, none⟩ = some (.string z.par.own)) ∧ (W.cell? ⟨g1, 0, none⟩ = some (.slice A2 o2.length c2) ∧ W.cell? ⟨g1, 1, none⟩ = some (.slice (some ad2) l2.length d2)) ∧ W.cell? (ad2.add (k2 * 3)) = some (.int .i64 y.par.id) ∧ W.cell? ⟨(ad2.add (k2 * 3)).block, (ad2.add (k2 * 3)).off + 1, none⟩ = some (.slice y.A y.par.ring.length y.cap) ∧ W.cell? ⟨(ad2.add (k2 * 3)).block, (ad2.add (k2 * 3)).off + 2, none⟩ = some (.string y.par.own) from ⟨h.new3.1, h.1.pt (.tail _ (.head _)), HDQ.out W h.1.1⟩))
      refine wp_region_held_drew (S := fun W => (W.cell? ⟨g7, 0, none⟩ = some (.int .i64 z.par.id) ∧ W.cell? ⟨g7, 1, none⟩ = some (.slice z.A z.par.ring.length z.cap) ∧ W.cell? ⟨g7, 2, none⟩ = some (.string z.par.own)) ∧ (W.cell? ⟨g1, 0, none⟩ = some (.slice A2 o2.length c2) ∧ W.cell? ⟨g1, 1, none⟩ = some (.slice (some ad2) l2.length d2)) ∧ W.cell? (ad2.add (k2 * 3)) = some (.int .i64 y.par.id) ∧ W.cell? ⟨(ad2.add (k2 * 3)).block, (ad2.add (k2 * 3)).off + 1, none⟩ = some (.slice y.A y.par.ring.length y.cap) ∧ W.cell? ⟨(ad2.add (k2 * 3)).block, (ad2.add (k2 * 3)).off + 2, none⟩ = some (.string y.par.own)) (by kernel_rfl) ?_ (fun hHeld => ?_)
      ·(try dsimp only)
       exact HKB.out _ hz
      refine tZ 0 ?_; refine tZ 1 ?_; refine tZ 2 ?_; refine tZ 3 ?_; refine tZ 4 ?_; refine tZ 5 ?_; refine tZ 6 ?_; refine tZ 7 ?_; refine tZ 8 ?_
      refine wpAnyH_ready (rs := [9]) (by decide +kernel) (by simp) ?_
      refine AllReadyH.cons rfl (fun K hK => ?_) AllReadyH.nil
      (try simp only [jA, jB, jC])
      go_simp
      go_at_call 50; refine (HSP.out _ hz.1.1).mono ?_; rintro e' W7 ⟨rfl, hB⟩; have hz2 := hz.on hB; clear hB
      refine hK.out _ _ ?_ (fun hHeld => ?_)
      focus ((try dsimp only); exact HKB.out _ hz2; done)
      clear hK K
      (try simp only [Act.put, jA, jB, jC, jD, jE, jF])
      refine tZ 10 ?_; refine tZ 11 ?_
      refine wpAnyH_done (by decide +kernel) ?_ _
      go_wp2_with fail
      go_meet
      exact ⟨_, rfl, HFF.out, hz2⟩
    case rest =>
     obtain ⟨b, rfl, hb, hr7⟩ := hcut
     clear hr6 HPL HFQ HP1 HP2 HPZ HDK HR5
     cases b
     ·have hd : ∃ a, firstQ (l1.map PV.par) id = some a ∧ firstQ (l2.map PV.par) id = some a := Classical.byContradiction fun h => by have := hb.2 h; cases this
      have HNX := Lib.hid (HNO.out hd)
      have HR7 := Lib.hid hr7.tail1
      clear hb hr7 hd HYE HNO
      go_wp2_with fail
      go_roundg (l1.length - (k + 1))
      case measure => have := HGK.out; omega
      case rel => exact ⟨k + 1, L, by omega, rfl, by go_num, HNX.out, HR7.out⟩
     ·have HNX := Lib.hid (HYE.out (hb.1 rfl))
      have i0 := hr7.1.cell (.head _) 0
      simp only [List.getElem?_toArray, List.getElem?_cons_zero] at i0
      have HON := Lib.hid (ref_once L z.par.id w _ (.slice A5 L.length c5) (by have := HLB.out; omega) hr7.2)
      have HR7 := Lib.hid hr7.tail1
      clear hb hr7 HYE HNO
      go_wp2_with fail
      go_at_call 56
      refine HON.out.mono ?_
      rintro e' W8 ⟨v8, rfl, hv8, hg8⟩
      have hh8 := HR7.out.1.grew HR7.out.2 hv8 hg8 (two_types2 (by decide) (by decide))
      rw [HID.out] at hv8
      have HR8 := Lib.hid (And.intro hh8 hv8)
      clear hv8 hg8 hh8 HON i0
      go_wp2_with fail
      go_roundg (l1.length - (k + 1))
      case measure => have := HGK.out; omega
      case rel => exact ⟨k + 1, _, by omega, rfl, by go_num, HNX.out, HR8.out⟩
  ·obtain rfl : k = l1.length := by omega
   have HOQ := Lib.hid (outQ_zero (by rw [List.length_map]; exact HOU.out))
   have hr1 := HZ0.out
   clear HOU HGK HZ0
   go_wp2_with fail
   clear c0 c1'
   go_loopg [5, 9] l2.length (fun g v i wr => ∃ (k : Nat) (L : List Int), k ≤ l2.length ∧ g = l2.length - k ∧ i = .int .i64 k ∧ OutQ (l1.map PV.par) (l2.map PV.par) k L ∧ HR w [(g1, #[.slice A2 o2.length c2, .slice P2 l2.length d2], 26), (g0, #[.slice A1 o1.length c1, .slice P1 l1.length d1], 26)] v L wr)
   case atStart => exact ⟨0, L, Nat.zero_le _, rfl, rfl, HOQ.out, hr1⟩
   case round =>
    clear hr1
    obtain ⟨k, L, hk, hgk, rfl, hout, hr⟩ := hrel
    have HGK := Lib.hid hgk
    have HOU := Lib.hid hout
    clear hgk hout
    obtain ⟨A5, c5, rfl, -⟩ := hr.2.items
    obtain ⟨q0, q1⟩ := hr.1.pt (.head _)
    have HZ := Lib.hid hr
    clear hr
    by_cases hlt : k < l2.length
    ·obtain ⟨ad2, hA2, -⟩ := (HP2.out _ HZ.out.1.1).at hlt
     have hxk : (l2.map PV.par)[k]? = some l2[k].par := by rw [List.getElem?_map, List.getElem?_eq_getElem hlt]; rfl
     have HDK := Lib.hid (fun W (hb : Below w.heap.size w W) => Prs.cells hA2 (HP2.out _ hb) (List.getElem?_eq_getElem hlt) (Below.refl _ W))
     have HYE := Lib.hid (fun h => outQ_yes HOU.out hxk h)
     have HNO := Lib.hid (fun h => outQ_no HOU.out hxk h)
     have HAP := Lib.hid (fun W hb => HA1.out l2[k].par.id W hb)
     have HLB : Hid (L.length ≤ 2000) := by unfold Hid; have := HOU.out.2.1; rw [List.length_map] at this; have := HN1.out; have := HN2.out; omega
     have b0 : (0 : Int) ≤ (k : Int) := by omega
     have b1 : (k : Int) < (l2.length : Int) := by omega
     have b9 : (l2.length : Int) ≤ 1000 := by have := HN2.out; omega
     clear hxk
     generalize l2[k].par = x at *
     subst hA2
     go_upto_region 12 with (fail)
     clear q0 q1
     have HKA := Lib.hid (fun W (h : HR w [(g1, #[.slice A2 o2.length c2, .slice (some ad2) l2.length d2], 26), (g0, #[.slice A1 o1.length c1, .slice P1 l1.length d1], 26)] (.slice A5 L.length c5) L W) => (show (W.cell? ⟨g0, 0, none⟩ = some (.slice A1 o1.length c1) ∧ W.cell? ⟨g0, 1, none⟩ = some (.slice P1 l1.length d1)) ∧ (W.cell? ⟨g1, 0, none⟩ = some (.slice A2 o2.length c2) ∧ W.cell? ⟨g1, 1, none⟩ = some (.slice (some ad2) l2.length d2)) ∧ W.cell? (ad2.add (k * 3)) = some (.int .i64 x.id) from ⟨h.1.pt (.tail _ (.head _)), h.1.pt (.head _), (HDK.out W h.1.1).1⟩))
     go_cut [67] (fun s wx => ∃ b : Bool, s = .bool b ∧ (b = true ↔ x.id ∉ idsQ (l1.map PV.par)) ∧ HR w [(g1, #[.slice A2 o2.length c2, .slice (some ad2) l2.length d2], 26), (g0, #[.slice A1 o1.length c1, .slice P1 l1.length d1], 26)] (.slice A5 L.length c5) L wx)
     case first =>
      have hz := HZ.out
      clear HZ HYE HNO HOU HDK HP1 HP2 HA1 HA2
      go_region_held3 (fun W => (W.cell? ⟨g0, 0, none⟩ = some (.slice A1 o1.length c1) ∧ W.cell? ⟨g0, 1, none⟩ = some (.slice P1 l1.length d1)) ∧ (W.cell? ⟨g1, 0, none⟩ = some (.slice A2 o2.length c2) ∧ W.cell? ⟨g1, 1, none⟩ = some (.slice (some ad2) l2.length d2)) ∧ W.cell? (ad2.add (k * 3)) = some (.int .i64 x.id)) (first | exact HKA.out _ (by assumption) | exact HKA.out _ (HR.drew (by assumption))) ((go_at_call 55; (with_reducible refine (HAP.out _ (HR.b (by first | assumption | exact HR.drew (by assumption)))).mono ?_); rintro e' W6 ⟨n, rfl, hn, hB6⟩; have HPS := Lib.hid (plc_neg hn); clear hn; have HS6 := HR.on (by first | assumption | exact HR.drew (by assumption)) hB6))
      go_wp2_with fail
      go_meet
      exact ⟨_, rfl, by rw [decide_eq_true_eq]; exact HPS.out, HS6⟩
     case rest =>
      obtain ⟨b, rfl, hb, hr7⟩ := hcut
      have HR7 := Lib.hid hr7
      clear HZ HKA HAP
      obtain ⟨q0, q1⟩ := hr7.1.pt (.head _)
      obtain ⟨i0, -, -⟩ := HDK.out _ hr7.1.1
      cases b
      ·have hd : x.id ∈ idsQ (l1.map PV.par) := Classical.byContradiction fun h => by have := hb.2 h; cases this
       have HNX := Lib.hid (HNO.out hd)
       clear hb hr7 hd HYE HNO HDK
       go_wp2_with fail
       go_roundg (l2.length - (k + 1))
       case measure => have := HGK.out; omega
       case rel => exact ⟨k + 1, L, by omega, rfl, by go_num, HNX.out, HR7.out⟩
      ·have HNX := Lib.hid (HYE.out (hb.1 rfl))
       have HON := Lib.hid (ref_once L x.id w _ (.slice A5 L.length c5) (by have := HLB.out; omega) hr7.2)
       clear hb hr7 HYE HNO HDK
       go_wp2_with fail
       go_at_call 56
       refine HON.out.mono ?_
       rintro e' W8 ⟨v8, rfl, hv8, hg8⟩
       have HR8 := Lib.hid (And.intro (HR7.out.1.grew HR7.out.2 hv8 hg8 (two_types2 (by decide) (by decide))) hv8)
       clear hv8 hg8 HON i0 q0 q1
       go_wp2_with fail
       go_roundg (l2.length - (k + 1))
       case measure => have := HGK.out; omega
       case rel => exact ⟨k + 1, _, by omega, rfl, by go_num, HNX.out, HR8.out⟩
    ·obtain rfl : k = l2.length := by omega
     have HALL := Lib.hid (outQ_all (by rw [List.length_map]; exact HOU.out))
     have HLB : Hid (L.length ≤ 2000) := by unfold Hid; have := HOU.out.2.1; rw [List.length_map] at this; have := HN1.out; have := HN2.out; omega
     have hrow := HZ.out.2
     clear HOU HGK HZ HP1 HP2 HA1 HA2 HN1 HN2 HOQ
     go_wp2_with fail
     clear q0 q1
     go_loopg [10] L.length (fun g i wr => ∃ (k : Nat) (M : List Int), k ≤ L.length ∧ g = L.length - k ∧ i = .int .i64 k ∧ M.Perm L ∧ RisesTo M k ∧ RowI w 3 1 encN (.slice A5 L.length c5) M wr)
     case atStart => exact ⟨0, L, Nat.zero_le _, rfl, rfl, List.Perm.refl _, (fun a b _ hb => absurd hb (by omega)), hrow⟩
     case round =>
      clear hrow
      obtain ⟨k, M, hk, hgk, rfl, hpm, hrs, hrow⟩ := hrel
      have HGK := Lib.hid hgk
      have HPM := Lib.hid hpm
      have HRS := Lib.hid hrs
      have b9 : (L.length : Int) ≤ 2000 := by have := HLB.out; omega
      clear hgk hpm hrs
      by_cases hlt : k < L.length
      ·have b0 : (0 : Int) ≤ (k : Int) := by omega
       have b1 : (k : Int) < (L.length : Int) := by omega
       have hne : M ≠ [] := fun e => by have := HPM.out.length_eq; rw [e] at this; simp at this; omega
       obtain ⟨gb, cb, hv⟩ := hrow.block hne
       obtain ⟨hv1, hv2, hv3⟩ := Value.slice.inj hv
       subst hv1 hv3
       have HRW := Lib.hid hrow
       clear hrow hv hv2 hne
       go_wp2_with fail
       go_loopg [11] (k + 1) (fun g i wr => ∃ (j : Nat) (M' : List Int), j ≤ k ∧ g = j + 1 ∧ i = .int .i64 j ∧ M'.Perm L ∧ Slides M' k j ∧ RowI w 3 1 encN (.slice (some ⟨gb, 0, none⟩) L.length c5) M' wr)
       case atStart => exact ⟨k, M, Nat.le_refl _, rfl, rfl, HPM.out, slides_start HRS.out, HRW.out⟩
       case round =>
        obtain ⟨j, M', hj, hgj, rfl, hpm, hsl, hrow⟩ := hrel
        have HGJ := Lib.hid hgj
        have HPM2 := Lib.hid hpm
        have HSL := Lib.hid hsl
        have hlen : M'.length = L.length := hpm.length_eq
        clear hgj hpm hsl
        by_cases h0 : j = 0
        ·have HRI := Lib.hid (slides_end HSL.out hj (.inl h0))
         subst h0
         have HRW2 := Lib.hid hrow
         clear hrow HSL HRW HPM HRS hlen
         go_upto_region 18 with (fail)
         go_quiet (fail)
         have HRW3 := Lib.hid (HRW2.out.drewN nq)
         go_wp2
         go_roundg (L.length - (k + 1))
         case measure => have := HGK.out; omega
         case rel => exact ⟨k + 1, M', by omega, rfl, by go_num, HPM2.out, HRI.out, HRW3.out⟩
        ·obtain ⟨m, rfl⟩ : ∃ m, j = m + 1 := ⟨j - 1, by omega⟩
         have hj2 : m + 1 < M'.length := by omega
         have hv : M'[m + 1]? = some M'[m + 1] := List.getElem?_eq_getElem hj2
         have hu : M'[m]? = some M'[m] := List.getElem?_eq_getElem (by omega)
         have HST := Lib.hid (fun (h : M'[m + 1] < M'[m]) => slides_step HSL.out (by omega) hj (by omega) (u := M'[m]) (v := M'[m + 1]) hu hv h)
         have HEN := Lib.hid (fun (h : M'[m] < M'[m + 1]) => slides_end HSL.out hj (.inr ⟨M'[m], M'[m + 1], hu, hv, h⟩))
         have HND := Lib.hid (fun (h : ¬ M'[m + 1] < M'[m]) => nodup_next (HPM2.out.symm.nodup HALL.out.1) (j := m + 1) (by omega) hu hv h)
         have HSW : Hid (((M'.set (m + 1) M'[m]).set m M'[m + 1]) = swp M' (m + 1)) := by
          unfold Hid swp
          rw [List.getD_eq_getElem?_getD, List.getD_eq_getElem?_getD, show m + 1 - 1 = m by omega, hu, hv]; rfl
         have HSP := Lib.hid ((swp_perm (M := M') (j := m + 1) (by omega) hj2).trans HPM2.out)
         obtain ⟨d0, z0⟩ := hrow.cellN hu
         obtain ⟨d1, z1⟩ := hrow.cellN hv
         have hset : (M'.set (m + 1) M'[m])[m]? = some M'[m] := by rw [List.getElem?_set_ne (by omega)]; exact hu
         have HRW2 := Lib.hid hrow
         have HSET := Lib.hid hset
         have HUV := Lib.hid (And.intro hu hv)
         have b2 : (0 : Int) ≤ (m : Int) := by omega
         have b3 : (m : Int) < (L.length : Int) := by omega
         have b4 : (m : Int) + 1 < (L.length : Int) := by omega
         have b5 : (0 : Int) < (m : Int) + 1 := by omega
         have w1 := wrap_in (n := (m : Int) + 1 - 1) (by omega) (by omega)
         have w2 : (m : Int) + 1 - 1 = (m : Int) := by omega
         rw [w2] at w1
         have w3 : ((m + 1 : Nat) : Int) = (m : Int) + 1 := by omega
         rw [w3]
         clear hset hu hv hrow hlen HSL HRW HPM HRS w2 w3
         generalize M'[m] = u at *
         generalize M'[m + 1] = v at *
         go_upto_region 18 with (fail)
         by_cases hlt2 : v < u
         ·have HNX := Lib.hid (HST.out hlt2)
          clear HST HEN HND
          go_quiet (fail)
          have hq := HRW2.out.drewN nq
          clear d0 z0 d1 z1 hlt2
          generalize World.drewN _ nq = Wq at hq ⊢
          obtain ⟨d0, z0⟩ := hq.cellN HUV.out.1
          obtain ⟨d1, z1⟩ := hq.cellN HUV.out.2
          go_upto_region 22 with (fail)
          have hp := hq.putN (m + 1) u
          clear d0 z0 d1 z1 hq
          generalize World.setCell Wq _ _ = Wp at hp ⊢
          obtain ⟨d0, z0⟩ := hp.cellN HSET.out
          have hp2 := hp.putN m v
          rw [HSW.out] at hp2
          have HP2 := Lib.hid hp2
          clear hp hp2
          go_wp2
          go_roundg (m + 1)
          case measure => have := HGJ.out; omega
          case rel => exact ⟨m, _, by omega, rfl, by go_num, HSP.out, HNX.out, HP2.out⟩
         ·have HRI := Lib.hid (HEN.out (HND.out hlt2))
          clear HST HEN HND
          go_quiet (fail)
          have HRW3 := Lib.hid (HRW2.out.drewN nq)
          clear d0 z0 d1 z1
          go_wp2
          go_roundg (L.length - (k + 1))
          case measure => have := HGK.out; omega
          case rel => exact ⟨k + 1, M', by omega, rfl, by go_num, HPM2.out, HRI.out, HRW3.out⟩
      ·obtain rfl : k = L.length := by omega
       have HFI : Hid (M.Pairwise (· < ·) ∧ ∀ n, n ∈ M ↔ ChP (l1.map PV.par) (l2.map PV.par) n) := ⟨rises_all (by rw [HPM.out.length_eq]; exact HRS.out), fun n => by rw [HPM.out.mem_iff]; exact HALL.out.2 n⟩
       have HRW := Lib.hid hrow
       clear hrow HPM HRS HALL
       go_wp2
       go_ret
       exact ⟨_, M, rfl, HRW.out, HFI.out.1, HFI.out.2⟩
end Go.Proofs.YtjlnjjmomohpaaaGreat
