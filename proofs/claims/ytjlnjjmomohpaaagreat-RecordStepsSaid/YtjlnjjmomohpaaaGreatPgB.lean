/- The program's small calls on plans: isID, isOwner, turned, edgesOf. -/
import Derived.Test.YtjlnjjmomohpaaaGreatRefPar
import Derived.Test.YtjlnjjmomohpaaaGreatMapE
import Derived.Laws.IdiomStrings
namespace Go.Proofs.YtjlnjjmomohpaaaGreat
open Go.RowKit

set_option maxHeartbeats 400000 in
theorem id_any (n : Int) (w : World) : Calls Tryz.prog 92 #[.int .i64 n] w fun e w' => e = .returned (.bool (idB n)) ∧ w' = w := by
 by_cases h1 : 1 ≤ n
 ·by_cases h2 : n ≤ 1073741824
  ·have HG : Hid (idB n = true) := by unfold Hid idB; simp [h1, h2]
   go_enter Tryz.func92, Tryz.ntmps92
   go_wp2
   go_ret
   rw [HG.out]
   exact ⟨rfl, rfl⟩
  ·have HG : Hid (idB n = false) := by unfold Hid idB; simp [h2]
   go_enter Tryz.func92, Tryz.ntmps92
   go_wp2
   go_ret
   rw [HG.out]
   exact ⟨rfl, rfl⟩
 ·have HG : Hid (idB n = false) := by unfold Hid idB; simp [h1]
  go_enter Tryz.func92, Tryz.ntmps92
  go_wp2
  go_ret
  rw [HG.out]
  exact ⟨rfl, rfl⟩

set_option maxRecDepth 100000 in
set_option maxHeartbeats 1000000 in
theorem turned_any (e : (Int × Int) × (Int × Int)) (w : World) : Calls Tryz.prog 160 #[.agg #[.int .i64 e.1.1, .int .i64 e.1.2, .int .i64 e.2.1, .int .i64 e.2.2]] w fun e' w' => e' = .returned (.agg #[.int .i64 (bk e).1.1, .int .i64 (bk e).1.2, .int .i64 (bk e).2.1, .int .i64 (bk e).2.2]) ∧ Below w.heap.size w w' := by
 have HQ := ((Hold.refl w).new #[.int .i64 e.1.1, .int .i64 e.1.2, .int .i64 e.2.1, .int .i64 e.2.2] 76).new' #[.int .i64 0, .int .i64 0, .int .i64 0, .int .i64 0] 76 (n := w.heap.size + 1) (by simp)
 go_enter Tryz.func160, Tryz.ntmps160
 go_upto_region 1 with (fail)
 generalize (World.alloc _ _) = W1 at HQ ⊢
 generalize w.heap.size + 1 = g1 at HQ ⊢
 obtain ⟨g0, hg0⟩ : ∃ g, w.heap.size = g := ⟨_, rfl⟩
 rw [hg0] at HQ ⊢
 have HG0 := Lib.hid hg0
 clear hg0
 obtain ⟨c0, c1, c2, c3⟩ := HQ.q4 (List.mem_cons_of_mem _ List.mem_cons_self)
 obtain ⟨k0, k1, k2, k3⟩ := HQ.q4 List.mem_cons_self
 obtain ⟨z0, z1, z2, z3⟩ := HQ.z4 List.mem_cons_self
 go_wp2
 have HE := Hold.set4 (L1 := []) HQ (.int .i64 e.2.1) (.int .i64 e.2.2) (.int .i64 e.1.1) (.int .i64 e.1.2)
 obtain ⟨n0, n1, n2, n3⟩ := HE.q4 List.mem_cons_self
 refine bodyPost_ret (v := .agg #[.int .i64 (bk e).1.1, .int .i64 (bk e).1.2, .int .i64 (bk e).2.1, .int .i64 (bk e).2.2]) ?_ rfl ⟨rfl, HE.1⟩
 simp [results, Tryz.results160, go_sem, n0, n1, n2, n3, bk]

def badB (b : Int) : Bool := decide (b < 32) || decide (126 < b)
theorem bad_any (b : Int) (w : World) : Calls Tryz.prog 125 #[.int .u8 b] w fun e w' => e = .returned (.bool (badB b)) ∧ w' = w := by
 by_cases h1 : b < 32
 ·have HG : Hid (badB b = true) := by unfold Hid badB; simp [h1]
  go_enter Tryz.func125, Tryz.ntmps125
  go_wp2
  go_ret
  rw [HG.out]
  exact ⟨rfl, rfl⟩
 ·by_cases h2 : 126 < b
  ·have HG : Hid (badB b = true) := by unfold Hid badB; simp [h2]
   go_enter Tryz.func125, Tryz.ntmps125
   go_wp2
   go_ret
   rw [HG.out]
   exact ⟨rfl, rfl⟩
  ·have HG : Hid (badB b = false) := by unfold Hid badB; simp [h1, h2]
   go_enter Tryz.func125, Tryz.ntmps125
   go_wp2
   go_ret
   rw [HG.out]
   exact ⟨rfl, rfl⟩
theorem badB_not {b : Int} (h : badB b = false) : 32 ≤ b ∧ b ≤ 126 := by
 unfold badB at h
 simp at h
 omega
theorem badB_yes {b : Int} (h : badB b = true) : b < 32 ∨ 126 < b := by
 unfold badB at h
 simpa using h
def Fair (s : ByteArray) : Prop := ∀ j (hj : j < s.size), 32 ≤ s[j].toNat ∧ s[j].toNat ≤ 126
set_option maxRecDepth 100000 in
set_option maxHeartbeats 2000000 in
theorem indexf_any (s : ByteArray) (ad : Addr) (cap : Nat) (hs : s.size ≤ maxLen) (w : World) (hc : ∀ j (hj : j < s.size), w.cell? (ad.add j) = some (.int .u8 s[j].toNat)) :
  Calls Tryz.prog 156 #[.slice (some ad) s.size cap, .func (.func 125) #[] #[]] w fun e w' => ∃ n : Int, e = .returned (.int .i64 n) ∧ (0 ≤ n ↔ ¬ Fair s) ∧ w' = w := by
 have HS : Hid (s.size ≤ 9223372036854775807) := by unfold Hid; unfold maxLen at hs; omega
 have HC := Lib.hid hc
 clear hs hc
 go_enter Tryz.func156, Tryz.ntmps156
 go_wp2_with fail
 go_loopg [8] s.size (fun g i wr => ∃ k : Nat, k ≤ s.size ∧ g = s.size - k ∧ i = .int .i64 k ∧ (∀ j (hj : j < s.size), j < k → 32 ≤ s[j].toNat ∧ s[j].toNat ≤ 126) ∧ wr = w)
 case atStart => exact ⟨0, Nat.zero_le _, rfl, rfl, fun j _ hj => absurd hj (by omega), rfl⟩
 case round =>
  obtain ⟨k, hk, hgk, rfl, hno, rfl⟩ := hrel
  have HGK := Lib.hid hgk
  have HNO := Lib.hid hno
  clear hgk hno
  by_cases hlt : k < s.size
  ·have b0 : (0 : Int) ≤ (k : Int) := by omega
   have b1 : (k : Int) < (s.size : Int) := by omega
   have hws : IntKind.i64.wrap ((k : Int) + 1) = (k : Int) + 1 := by have := HS.out; rw [IntKind.wrap_i64]; omega
   have d0 := HC.out k hlt
   have HB := Lib.hid (fun W => bad_any (s[k].toNat : Int) W)
   cases hb : badB (s[k].toNat : Int)
   ·have HN : Hid (∀ j (hj : j < s.size), j < k + 1 → 32 ≤ s[j].toNat ∧ s[j].toNat ≤ 126) := fun j hj hjk => by
     by_cases e : j = k
     ·subst e; have := badB_not hb; omega
     ·exact HNO.out j hj (by omega)
    clear HNO
    go_wp2_with (go_at_call 125; go_must (refine (HB.out _).mono ?_; rintro e w' ⟨rfl, rfl⟩))
    go_roundg (s.size - (k + 1))
    case measure => have := HGK.out; omega
    case rel => exact ⟨k + 1, by omega, rfl, by go_num, HN.out, rfl⟩
   ·have HE : Hid ((0 : Int) ≤ (k : Int) ↔ ¬ Fair s) := ⟨fun _ h => by have := badB_yes hb; have := h k hlt; omega, fun _ => by omega⟩
    clear HNO
    go_wp2_with (go_at_call 125; go_must (refine (HB.out _).mono ?_; rintro e w' ⟨rfl, rfl⟩))
    go_ret
    exact ⟨_, rfl, HE.out, rfl⟩
  ·obtain rfl : k = s.size := by omega
   have HE : Hid ((0 : Int) ≤ -1 ↔ ¬ Fair s) := ⟨fun h => by omega, fun h => absurd (fun j hj => HNO.out j hj hj) h⟩
   clear HNO
   go_wp2
   go_ret
   exact ⟨_, rfl, HE.out, rfl⟩
set_option maxHeartbeats 1000000 in
theorem containsf_any (s : ByteArray) (ad : Addr) (cap : Nat) (hs : s.size ≤ maxLen) (w : World) (hc : ∀ j (hj : j < s.size), w.cell? (ad.add j) = some (.int .u8 s[j].toNat)) :
  Calls Tryz.prog 124 #[.slice (some ad) s.size cap, .func (.func 125) #[] #[]] w fun e w' => ∃ b : Bool, e = .returned (.bool b) ∧ (b = true ↔ ¬ Fair s) ∧ w' = w := by
 have HI := Lib.hid (indexf_any s ad cap hs w hc)
 clear hs hc
 go_enter Tryz.func124, Tryz.ntmps124
 go_wp2_with (go_at_call 156; go_must (refine HI.out.mono ?_; rintro e w' ⟨n, rfl, hn, rfl⟩; have HN := Lib.hid hn; clear hn))
 go_ret
 exact ⟨_, rfl, by rw [decide_eq_true_iff]; exact HN.out, rfl⟩
theorem bytes_cell (w : World) (s : ByteArray) (cap : Nat) (t : TypeId) (m : Nat × Nat) (j : Nat) (hj : j < s.size) : (w.alloc (.cells (bytesRow s cap) t m)).cell? ((⟨w.heap.size, 0, none⟩ : Addr).add j) = some (.int .u8 s[j].toNat) := by
 have h := heap_alloc_new w (.cells (bytesRow s cap) t m)
 rw [add_off]
 simp only [World.cell?, h]
 unfold bytesRow
 have hj' : j < s.data.size := hj
 simp only [Option.isSome_none, Bool.false_eq_true, if_false]
 rw [Array.getElem?_append_left (by rw [Array.size_map]; exact hj'), Array.getElem?_map, Array.getElem?_eq_getElem hj']
 rfl
set_option maxRecDepth 100000 in
set_option maxHeartbeats 2000000 in
theorem owner_any (s : ByteArray) (hs : s.size ≤ maxLen) (w : World) : Calls Tryz.prog 93 #[.string s] w fun e w' => e = .returned (.bool (owB s)) ∧ Below w.heap.size w w' := by
 by_cases h : s.size ≤ 32
 ·have h' : (s.size : Int) ≤ 32 := by omega
  have hconv := fun W => run_bytes_of_string (P := Tryz.prog) W 9 37 5 s (by kernel_rfl) (by kernel_rfl) (by kernel_rfl)
  have HCF := Lib.hid (fun ad cap W hc => containsf_any s ad cap hs W hc)
  have HE : Hid (∀ b : Bool, (b = true ↔ ¬ Fair s) → (!b) = owB s) := fun b hb => by
   cases b
   ·exact (owB_iff.2 ⟨(Classical.byContradiction fun hn => (by have h3 := hb.2 hn; cases h3)), h⟩).symm
   ·exact (owB_not.2 fun hh => hb.1 rfl hh.1).symm
  clear h
  go_enter Tryz.func93, Tryz.ntmps93
  go_wp2_with (go_at_call 124; go_must (refine (HCF.out ⟨w.heap.size, 0, none⟩ _ _ (fun j hj => (show ((w.alloc (.cells (bytesRow s (grownCap w s.size 0 5)) 5 ((bytesRow s (grownCap w s.size 0 5)).size, (bytesRow s (grownCap w s.size 0 5)).size + 1))).drew).cell? _ = _ from bytes_cell w s _ _ _ j hj))).mono ?_; rintro e w' ⟨b, rfl, hb, rfl⟩; have HB := Lib.hid hb; clear hb))
  go_ret
  exact ⟨by rw [HE.out b HB.out]; rfl, by go_grown⟩
 ·have h' : ¬ (s.size : Int) ≤ 32 := by omega
  have HE : Hid (owB s = false) := owB_not.2 fun hh => h hh.2
  clear h
  go_enter Tryz.func93, Tryz.ntmps93
  go_wp2
  go_ret
  rw [HE.out]
  exact ⟨rfl, Below.refl _ _⟩
end Go.Proofs.YtjlnjjmomohpaaaGreat

namespace Go.Proofs.YtjlnjjmomohpaaaGreat
open Go.RowKit
section
variable {w W W' : World} {L : List (Nat × Array Value × TypeId)}
theorem Hold.grow {row : Option Nat} (h : Hold w L W) (hB : Below w.heap.size w W') (hg : W.grownBy W' row) (hne : ∀ e ∈ L, row ≠ some e.1) : Hold w L W' :=
 ⟨hB, fun e he => ⟨(hg.block _ (blk_lt (h.2.1 e he).1) (fun e' => hne e he e'.symm)).trans (h.2.1 e he).1, (h.2.1 e he).2⟩, h.2.2⟩
end
section
variable {α : Type} {T : TypeId} {enc : α → List Value} {n bytes : Nat} {w0 W : World} {v : Value} {l : List α}
theorem step_append_itemsG (K : Kind T enc n bytes) {TS : TypeId} (hT : Tryz.prog.underlying TS = some (.slice T)) (HR : RowI w0 T n enc v l W)
  (qs : List α) (A : Option Addr) (c : Nat) (hq : Items W W.heap.size A enc qs) (hnil : NilOk A c) (hn : l.length + qs.length ≤ maxLen) (hb : (l.length + qs.length) * bytes ≤ 140737488355328)
  {ops : Array Oper} {o : Oper} {a : Act} {KK : Act → World → Prop} {Q : Exit → Act → World → Prop} {E : Prop} (hgd : o.guard = none) (s y : Operand)
  (ho : o.op = .call { callee := .builtin .append, args := #[s, y], argTypes := #[TS, TS] })
  (hs : a.eval s = v) (hx : a.eval y = .slice A qs.length c)
  (h : ∀ v' w', RowI w0 T n enc v' (l ++ qs) w' → W.grownBy w' v.ownBlock → KK (a.put o.dst v') w') :
  if Region.wanted o (yielded ops a.tmps) = true then Oper.wp Tryz.prog o a W KK Q else E := by
 have hw : Region.wanted o (yielded ops a.tmps) = true := by simp [Region.wanted, hgd]
 rw [if_pos hw]
 obtain ⟨i0, z, hi, hz0, hz1, hz2, hz3⟩ := K.info
 cases A with
 |none =>
  obtain rfl : qs = [] := by
   cases qs with
   |nil => rfl
   |cons p q => obtain ⟨_, e, _⟩ := hq (by simp); cases e
  obtain rfl := hnil rfl
  have hrun := run_append_owned_none (P := Tryz.prog) (w := W) w0.heap.size TS o.type T i0 n hT hi v l.length (l.flatMap enc) HR.2
  have h' := h v W (by rw [List.append_nil]; exact HR) (World.grownBy.refl _ _)
  unfold Oper.wp
  have hx' : a.eval y = .slice none 0 0 := hx
  simp [execOp, ho, resolve, invoke, builtin, hs, hx', hrun, Result.andThen]
  exact h'
 |some ad =>
  refine wp_append_own W s y TS ho w0.heap.size T i0 z n bytes hT hi hz0 hz1 hz2 hz3 K.pos v l.length (l.flatMap enc) hs HR.2 ad qs.length c (qs.flatMap enc) hx (flat_len K.len qs) ?_ (flat_one K.one qs) hn hb HR.1.size ?_
  ·intro j u hu
   obtain ⟨ad', e, -, hc⟩ := hq (fun e => by subst e; simp at hu)
   obtain rfl := Option.some.inj e
   exact hc j u hu
  ·intro v' w' hown hgrow _
   refine h v' w' ⟨grownB HR.1 (Nat.le_refl _) hgrow (fun k hk => (HR.2.lt k hk).1), ?_⟩ hgrow
   rw [List.length_append, List.flatMap_append]
   exact hown
theorem RowI.row_ne (h : RowI w0 T n enc v l W) {g : Nat} (hg : W.heap.size ≤ g) : v.ownBlock ≠ some g := fun e => by
 have := (h.2.lt g e).2
 omega
end
set_option maxRecDepth 100000 in
set_option maxHeartbeats 2000000 in
theorem edges_any (ps : List (Int × Int)) (A : Option Addr) (cap : Nat) (hn : ps.length ≤ 1000000) (w : World) (hr : Pts w w.heap.size A ps) :
  Calls Tryz.prog 130 #[.slice A ps.length cap] w fun e w' => ∃ v, e = .returned v ∧ RowI w 76 4 encG v (edg ps) w' := by
 have HR := Lib.hid hr
 have HR0 : RowI w 76 4 encG (.slice none 0 0) [] w := RowI.nil (Below.refl _ _)
 clear hr
 go_enter Tryz.func130, Tryz.ntmps130
 go_wp2_with fail
 go_loopg [3, 8] ps.length (fun g v i wr => ∃ k : Nat, k ≤ ps.length ∧ g = ps.length - k ∧ i = .int .i64 k ∧ RowI w 76 4 encG v ((edg ps).take k) wr)
 case atStart => exact ⟨0, Nat.zero_le _, rfl, rfl, by rw [List.take_zero]; exact HR0⟩
 case round =>
  clear HR0
  obtain ⟨k, hk, hgk, rfl, HV⟩ := hrel
  have HGK := Lib.hid hgk
  clear hgk
  by_cases hlt : k < ps.length
  ·obtain ⟨jk, hjk, ek1, ek2, ek3⟩ := next_place hlt
   obtain ⟨ad, hA, F0⟩ := HR.out.fp hlt (Nat.mod_eq_of_lt hlt)
   obtain ⟨ad', e', F1⟩ := HR.out.fp hjk ek1
   obtain rfl := Option.some.inj (hA.symm.trans e')
   obtain rfl := hA
   have HT := Lib.hid (edg_take hlt)
   have hlen : ((edg ps).take k).length ≤ 1000000 := by have := List.length_take_le k (edg ps); omega
   have HLN := Lib.hid hlen
   have b0 : (0 : Int) ≤ (k : Int) := by omega
   have b1 : (k : Int) < (ps.length : Int) := by omega
   have b2 : (0 : Int) < (ps.length : Int) := by omega
   have b4 : (0 : Int) ≤ (jk : Int) := by omega
   have b5 : (jk : Int) < (ps.length : Int) := by omega
   have b6 : (ps.length : Int) ≤ 1000000 := by omega
   have hh : Hold w [] wr := ⟨HV.1, fun _ h => (by cases h), List.Pairwise.nil⟩
   obtain ⟨d0, d1⟩ := hh.fp F0
   have HF1 := Lib.hid F1
   have HH := Lib.hid hh
   clear F0 F1 e' ek1 hlen hh
   generalize nx ps k = a at *
   generalize nx ps (k + 1) = b at *
   generalize (edg ps).take k = es at *
   go_upto_region 5 with (fail)
   clear d0 d1
   have HQ := HH.out.new #[.int .i64 a.1, .int .i64 a.2] 56
   have HV1 := HV.alloc (Obj.cells #[.int .i64 a.1, .int .i64 a.2] 56 (0, 0))
   have HN1 := HV.row_ne (Nat.le_refl _)
   generalize (World.alloc _ _) = W1 at HQ HV1 ⊢
   generalize wr.heap.size = gb at HQ HN1 ⊢
   have HN := Lib.hid HN1
   clear HN1 HV HH
   have z1 : ((ps.length : Int) == 0) = false := by rw [beq_eq_false_iff_ne]; omega
   have z2 : ¬ (ps.length : Int) = 0 := by omega
   have z7 : ¬ ps.length = 0 := by omega
   have z8 : ¬ ps = [] := fun e => z7 (by rw [e]; rfl)
   have z3 := wrap_in (n := (k : Int) + 1) (by omega) (by omega)
   have z4 := wrap_in (n := (k : Int)) (by omega) (by omega)
   have z5 := wrap_in (n := (jk : Int)) (by omega) (by omega)
   have HK2 := Lib.hid (fun W (h : Hold w [(gb, #[.int .i64 a.1, .int .i64 a.2], 56)] W) => show W.cell? ⟨gb, 0, none⟩ = some (.int .i64 a.1) ∧ W.cell? ⟨gb, 1, none⟩ = some (.int .i64 a.2) ∧ W.cell? (ad.add (jk * 2)) = some (.int .i64 b.1) ∧ W.cell? ⟨(ad.add (jk * 2)).block, (ad.add (jk * 2)).off + 1, none⟩ = some (.int .i64 b.2) from
    ⟨(h.pt (.head _)).1, (h.pt (.head _)).2, (h.fp HF1.out).1, (h.fp HF1.out).2⟩)
   go_region_held3 (fun W => W.cell? ⟨gb, 0, none⟩ = some (.int .i64 a.1) ∧ W.cell? ⟨gb, 1, none⟩ = some (.int .i64 a.2) ∧ W.cell? (ad.add (jk * 2)) = some (.int .i64 b.1) ∧ W.cell? ⟨(ad.add (jk * 2)).block, (ad.add (jk * 2)).off + 1, none⟩ = some (.int .i64 b.2)) (first | exact HK2.out _ HQ.drew | exact HK2.out _ (HQ.alloc _).drew | exact HK2.out _ (HQ.drew.alloc _) | exact HK2.out _ HQ9)
    ((refine step_append_itemsG kindG Tryz.underlying71 (HV1.alloc _).drew [(a, b)] (some ⟨W1.heap.size, 0, none⟩) 1 (items_one (heap_alloc_new W1 _) rfl (by simp)) (fun e => by cases e) (by have := HLN.out; unfold maxLen; simp; omega) (by have := HLN.out; simp; omega) rfl _ _ rfl rfl rfl ?_; rintro v9 w9 HR9 hg9; have HQ9 := Hold.grow (HQ.alloc _).drew HR9.1 hg9 (fun e he => by rcases List.mem_cons.1 he with rfl | he; exact HN.out; cases he); clear hg9))
   go_wp2_with fail
   go_roundg (ps.length - (k + 1))
   case measure => have := HGK.out; omega
   case rel => exact ⟨k + 1, by omega, rfl, by go_num, by rw [HT.out]; exact HR9⟩
  ·obtain rfl : k = ps.length := by omega
   have e : (edg ps).take ps.length = edg ps := List.take_of_length_le (by rw [edg_len]; exact Nat.le_refl _)
   rw [e] at HV
   have HK := Lib.hid HV
   clear HV e
   go_wp2
   go_ret
   exact ⟨_, rfl, HK.out⟩
end Go.Proofs.YtjlnjjmomohpaaaGreat
