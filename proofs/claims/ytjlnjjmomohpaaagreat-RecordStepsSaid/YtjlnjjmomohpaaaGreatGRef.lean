/- Layer frame beside the others: bytes in memory, rows of bytes of the call's own. -/
import Derived.Test.YtjlnjjmomohpaaaGreatProg
import Derived.Test.YtjlnjjmomohpaaaGreatFNum
import Derived.Test.YtjlnjjmomohpaaaGreatHold
import Derived.WalkKit
import Derived.ProofKit
import Derived.OpenShut
import Derived.Handy
import Derived.Outline
import Derived.BigQuiet
import Derived.BigRegion
import Derived.Deep.QuietTactic
import Derived.Deep.RegionHeld3
import Derived.Deep.RegionWith
import Derived.Laws.Externs
import Derived.Lib.Hide
import Derived.Deep.DeepMust
import Derived.Laws.AppendOwn
import Derived.Laws.AppendOwnNone
import Derived.Maps.AppendAt
import Derived.WalkLawsBesides
import Derived.Deep.DeepCutAuto
import Derived.Deep.LoopGhost
import Derived.Deep.Light
import Derived.Laws.IdiomStrings
import Derived.Laws.BitsAll
import Derived.Laws.ShiftsVar
import Derived.Laws.MakeOwn
import Derived.Lib.ConvBytes
import Derived.Lib.LaidTab
import Derived.Lib.SliceRun
import Derived.Lib.AppendZerosOnto
namespace Go.Proofs.YtjlnjjmomohpaaaGreat
open Go.RowKit Go.Lib

def BytesAt (w : World) (p : Option Addr) (n : Nat) (bs : List UInt8) : Prop := 0 < n → ∃ b o, p = some ⟨b, o, none⟩ ∧ ∀ i, i < n → w.cell? ⟨b, o + i, none⟩ = some (.int .u8 (bs.getD i 0).toNat)
theorem grew_of {w W : World} (h : Below w.heap.size w W) (b : Option Nat) : w.grownBy W b := ⟨h.os, h.tape, h.output, h.size, fun k hk _ => h.block k hk⟩
theorem below_of {w W W' : World} {b : Nat} (h : Below w.heap.size w W) (hb : w.heap.size ≤ b) (hg : W.grownBy W' (some b)) : Below w.heap.size w W' :=
 h.grown hg h.size (fun k e => by cases e; exact hb)
theorem bytes_on {W W' : World} {A : Option Addr} {n : Nat} {s : List UInt8} {q : Option Nat} (h : BytesAt W A n s) (hg : W.grownBy W' q) (hf : ∀ ad, A = some ad → some ad.block ≠ q) : BytesAt W' A n s := fun h0 => by
 obtain ⟨g, o, rfl, hc⟩ := h h0
 exact ⟨g, o, rfl, fun i hi => hg.cell (hc i hi) (hf ⟨g, o, none⟩ rfl)⟩
def byV (l : List UInt8) : List Value := l.map fun x => .int .u8 (x.toNat : Nat)
theorem byV_len (l : List UInt8) : (byV l).length = l.length := by simp [byV]
def BRow (w0 : World) (v : Value) (l : List UInt8) (W : World) : Prop := Below w0.heap.size w0 W ∧ W.ownsRow w0.heap.size 5 1 v l.length (byV l)
theorem infoB : (Tryz.prog.info? 5).map (fun i => (i.zero, i.size, i.bytes)) = some (some (.int .u8 0), 1, 1) := by kernel_rfl
theorem BRow.at {w0 W : World} {v : Value} {l : List UInt8} (h : BRow w0 v l W) : ∃ A c, v = .slice A l.length c ∧ BytesAt W A l.length l ∧ (∀ ad, A = some ad → w0.heap.size ≤ ad.block ∧ ad.block < W.heap.size) ∧ l.length ≤ c ∧ c ≤ maxLen := by
 rcases h.2.2 with ⟨rfl, h0⟩ | ⟨g, cap, cur, rfl, hg0, hg, hn, hm, hs, ht⟩
 ·rw [h0]
  exact ⟨none, 0, rfl, fun h1 => absurd h1 (by omega), fun ad e => (by cases e), Nat.le_refl _, by unfold maxLen; omega⟩
 ·refine ⟨_, cap, rfl, fun h0 => ⟨g, 0, rfl, fun i hi => ?_⟩, fun ad e => (by cases e; exact ⟨hg0, blk_lt hg⟩), hn, hm⟩
  rw [Nat.zero_add, blk_cell hg i, ← Array.getElem?_toList]
  have := congrArg (·[i]?) ht
  simp only [List.getElem?_take, Nat.mul_one, hi, if_true] at this
  rw [this]
  simp [byV, List.getD_eq_getElem?_getD, List.getElem?_eq_getElem hi]
theorem append_by {w0 W : World} {v : Value} {l : List UInt8} (HR : BRow w0 v l W) (qs : List UInt8) (A : Option Addr) (c : Nat) (hq : BytesAt W A qs.length qs) (hnil : A = none → c = 0) (hb : l.length + qs.length ≤ 140737488355328)
  {ops : Array Oper} {rest : List Oper} {o : Oper} {a : Act} {Q : Exit → Act → World → Prop} (hgd : o.guard = none) (s x : Operand)
  (ho : o.op = .call { callee := .builtin .append, args := #[s, x], argTypes := #[37, 37] })
  (hs : a.eval s = v) (hx : a.eval x = .slice A qs.length c)
  (h : ∀ v' w', BRow w0 v' (l ++ qs) w' → wpList Tryz.prog ops Q rest (a.put o.dst v') w') :
  wpList Tryz.prog ops Q (o :: rest) a W := by
 obtain ⟨i0, z, hi, hz0, hz1, hz2⟩ : ∃ i z, Tryz.prog.info? 5 = some i ∧ i.zero = some z ∧ i.size = 1 ∧ (i.bytes = 1 ∧ z.cells.size = 1) := by
  obtain ⟨i, h1, h2, h3, h4⟩ := info_parts infoB
  exact ⟨i, _, h1, h2, h3, h4, rfl⟩
 cases A with
 |none =>
  obtain rfl : qs = [] := by
   cases qs with
   |nil => rfl
   |cons p q => obtain ⟨_, _, e, _⟩ := hq (by simp); cases e
  obtain rfl := hnil rfl
  refine wpList_append_own_none hgd s x 37 ho w0.heap.size 5 i0 1 Tryz.underlying37 hi v l.length (byV l) hs HR.2 hx ?_
  have := h v W (by rw [List.append_nil]; exact HR)
  exact this
 |some ad =>
  refine wpList_append_own_at _ hgd s x 37 ho w0.heap.size 5 i0 z 1 1 Tryz.underlying37 hi hz0 hz1 hz2.1 hz2.2 (by decide) v l.length (byV l) hs HR.2 ad qs.length c (byV qs) hx (by rw [byV_len, Nat.mul_one]) (fun j u hu => ?_) (fun u hu => ?_) (by unfold maxLen; omega) (by omega) HR.1.size ?_
  ·have hj : j < qs.length := by
    have := (List.getElem?_eq_some_iff.1 hu).1
    rwa [byV_len] at this
   obtain ⟨g, o', e, hc⟩ := hq (by omega)
   cases e
   rw [show (⟨g, o', none⟩ : Addr).add j = ⟨g, o' + j, none⟩ by simp [Addr.add], hc j hj, ← hu]
   simp [byV, List.getD_eq_getElem?_getD, List.getElem?_eq_getElem hj]
  ·obtain ⟨y, _, rfl⟩ := List.mem_map.1 hu
   rfl
  ·intro v' w' hown hgrow _ _
   have hgb : Below w0.heap.size w0 w' := by
    exact HR.1.grown hgrow HR.1.size (fun k hk => (HR.2.lt k hk).1)
   refine h v' w' ⟨hgb, ?_⟩
   rw [List.length_append]
   have : byV (l ++ qs) = byV l ++ byV qs := by simp [byV]
   rw [this]
   exact hown
theorem BRow.none (w : World) : BRow w (.slice none 0 0) [] w := ⟨Below.refl _ _, World.ownsRow_nil w _ _ _⟩
theorem BRow.made (w0 W : World) (hb : Below w0.heap.size w0 W) : BRow w0 (.slice (some ⟨W.heap.size, 0, Option.none⟩) 0 0) [] (W.alloc (Obj.cells #[] 5 (0, 0))) :=
 ⟨hb.alloc hb.size _, by
  have := World.ownsRow_made W #[] 0 (e := 5) (size := 1) hb.size (by unfold maxLen; omega) rfl
  exact this⟩
theorem BRow.on {w0 W W' : World} {v : Value} {l : List UInt8} (h : BRow w0 v l W) (hb : Below W.heap.size W W') : BRow w0 v l W' :=
 ⟨h.1.trans (hb.mono h.1.size), h.2.1, by
  rcases h.2.2 with hn | ⟨g, cap, cur, rfl, hg0, hg, r⟩
  ·exact .inl hn
  ·exact .inr ⟨g, cap, cur, rfl, hg0, (hb.block g (blk_lt hg)).trans hg, r⟩⟩
theorem conv_str {W : World} {A : Option Addr} {c : Nat} {s : List UInt8} (h : BytesAt W A s.length s) :
  (convert 37 9 (.slice A s.length c)).run Tryz.prog W = .ok (.string ⟨s.toArray⟩) W := by
 have hs := Tryz.underlying37
 have he := Tryz.underlying5
 have hd := Tryz.underlying9
 cases A with
 |none =>
  obtain rfl : s = [] := by
   cases s with
   |nil => rfl
   |cons p q => obtain ⟨_, _, e, _⟩ := h (by simp); cases e
  rw [run_convert_bytes_nil W 37 5 hs he _ _ _ hd]
  rfl
 |some ad =>
  refine run_convert_bytes_back (P := Tryz.prog) W 37 9 5 ad c s hs he hd (fun j hj => ?_)
  obtain ⟨g, o, e, hh⟩ := h (by omega)
  cases e
  rw [show (⟨g, o, none⟩ : Addr).add j = ⟨g, o + j, none⟩ by simp [Addr.add], hh j hj]
  simp [List.getD_eq_getElem?_getD, List.getElem?_eq_getElem hj]
theorem bytes_lit {W : World} {t : TypeId} {s : List UInt8} {cs : Array Value} {fr : Nat × Nat} (h : cs.toList = s.map fun x => (.int .u8 (x.toNat : Nat) : Value)) : BytesAt (W.alloc (Obj.cells cs t fr)) (some ⟨W.heap.size, 0, none⟩) s.length s := fun h0 => by
 refine ⟨W.heap.size, 0, rfl, fun i hi => ?_⟩
 have hc : (W.alloc (Obj.cells cs t fr)).cell? ⟨W.heap.size, i, none⟩ = cs[i]? := by unfold World.cell?; rw [heap_alloc_new]; rfl
 rw [Nat.zero_add, hc, ← Array.getElem?_toList, h]
 simp [List.getD_eq_getElem?_getD, List.getElem?_eq_getElem hi]
theorem BytesAt.on {W W' : World} {A : Option Addr} {n : Nat} {s : List UInt8} (h : BytesAt W A n s) (hb : Below W.heap.size W W') : BytesAt W' A n s := bytes_on h (grew_of hb none) (by simp)
theorem BRow.base {w w1 W : World} {v : Value} {l : List UInt8} (h : BRow w1 v l W) (hb : Below w.heap.size w w1) : BRow w v l W :=
 ⟨Below.trans hb (h.1.mono hb.size), h.2.1, h.2.2.imp id (fun ⟨g, cap, cur, e, hg, r⟩ => ⟨g, cap, cur, e, Nat.le_trans hb.size hg, r⟩)⟩
end Go.Proofs.YtjlnjjmomohpaaaGreat

namespace Go.Proofs.YtjlnjjmomohpaaaGreat
open Go.RowKit Go.Lib
theorem take_nextB {s : List UInt8} {j : Nat} (h : j < s.length) : s.take (j + 1) = s.take j ++ [s[j]] := by
 rw [List.take_add_one, List.getElem?_eq_getElem h]; rfl
theorem byte_at {W : World} {A : Option Addr} {s : List UInt8} (hB : BytesAt W A s.length s) {j : Nat} (h : j < s.length) : ∃ g o, A = some ⟨g, o, none⟩ ∧ W.cell? ⟨g, o + j, none⟩ = some (.int .u8 (s[j].toNat : Nat)) := by
 obtain ⟨g, o, e, hc⟩ := hB (by omega)
 refine ⟨g, o, e, ?_⟩
 rw [hc j h]
 simp [List.getD_eq_getElem?_getD, List.getElem?_eq_getElem h]


theorem clone_nil (w : World) (A : Option Addr) (n c n' c' : Nat) : (binOp .eql 37 (.slice A n c) (.slice none n' c')).run Tryz.prog w = .ok (.bool A.isNone) w :=
 Lib.run_eql_slice_nil w _ _ A n c n' c' Tryz.underlying37
set_option maxHeartbeats 1000000 in
theorem Clone_any {W : World} {A : Option Addr} {c : Nat} {s : List UInt8} (hB : BytesAt W A s.length s) (hn : A = none → c = 0) (hm : s.length ≤ 140737488355328) :
  Calls Tryz.prog 54 #[.slice A s.length c] W fun e w' => ∃ v, e = .returned v ∧ BRow W v s w' := by
 have q := fun w n n' c' => clone_nil w A n c n' c'
 have HN := Lib.hid hn
 have HY := Lib.hid (fun W' (hb : Below W.heap.size W W') => bytes_on hB (grew_of hb none) (fun _ _ => by simp))
 clear hB hn
 cases A with
 |none =>
  have hs : s = [] := by
   cases s with
   |nil => rfl
   |cons x t => obtain ⟨g, o, e, _⟩ := HY.out W (Below.refl _ _) (by simp); cases e
  subst hs
  have q1 : (none : Option Addr).isNone = true := rfl
  go_enter Tryz.func54, Tryz.ntmps54
  go_wp2_with fail
  go_ret
  exact ⟨_, rfl, BRow.none W⟩
 |some ad =>
  have q1 : (some ad).isNone = false := rfl
  go_enter Tryz.func54, Tryz.ntmps54
  go_wp2_with (at_builtin; go_must (refine append_by (BRow.made W W (Below.refl _ _)) s (some ad) c (HY.out _ ((Below.refl _ W).alloc (Nat.le_refl _) _)) (fun e => by cases e) (by simp; omega) rfl _ _ rfl rfl rfl ?_; rintro v8 w8 HR8; rw [List.nil_append] at HR8; have HR := Lib.hid HR8; clear HR8))
  go_ret
  exact ⟨_, rfl, HR.out⟩



theorem numFrom_snoc (n : Nat) (s : List UInt8) (x : UInt8) : numFrom n (s ++ [x]) = numFrom n s * 256 + x.toNat := by
 unfold numFrom; rw [List.foldl_append, List.foldl_cons, List.foldl_nil]
theorem pow_le {k : Nat} (h : k ≤ 6) : 256 ^ k ≤ 281474976710656 := Nat.le_trans (Nat.pow_le_pow_right (show 0 < 256 by decide) h) (by decide)

theorem putB_bad {s : List UInt8} {n k : Int} (h : n < 0 ∨ k < 1 ∨ 8 < k) : putB s n k = s := by
 unfold putB; rw [if_neg]; rintro ⟨h1, h2, h3, -⟩; omega
set_option maxHeartbeats 2000000 in
theorem putNum_bad {W : World} {A : Option Addr} {c : Nat} {s : List UInt8} (n k : Int) (hB : BytesAt W A s.length s) (hn : A = none → c = 0) (hm : s.length ≤ 140737488351232) (h : n < 0 ∨ k < 1 ∨ 8 < k) :
  Calls Tryz.prog 62 #[.slice A s.length c, .int .i64 n, .int .i64 k] W fun e w' => ∃ v, e = .returned v ∧ BRow W v (putB s n k) w' := by
 have HC := Lib.hid (Clone_any hB hn (by omega))
 rw [putB_bad h]
 by_cases h1 : n < 0
 ·go_enter Tryz.func62, Tryz.ntmps62
  go_wp2_with (go_at_call 54; go_must ((with_reducible refine HC.out.mono ?_); rintro e' w1 ⟨v1, rfl, hR1⟩; have HR1 := Lib.hid hR1; clear hR1))
  go_ret
  exact ⟨_, rfl, HR1.out⟩
 ·by_cases h2 : k < 1
  ·go_enter Tryz.func62, Tryz.ntmps62
   go_wp2_with (go_at_call 54; go_must ((with_reducible refine HC.out.mono ?_); rintro e' w1 ⟨v1, rfl, hR1⟩; have HR1 := Lib.hid hR1; clear hR1))
   go_ret
   exact ⟨_, rfl, HR1.out⟩
  ·have h3 : 8 < k := by omega
   clear h
   go_enter Tryz.func62, Tryz.ntmps62
   go_wp2_with (go_at_call 54; go_must ((with_reducible refine HC.out.mono ?_); rintro e' w1 ⟨v1, rfl, hR1⟩; have HR1 := Lib.hid hR1; clear hR1))
   go_ret
   exact ⟨_, rfl, HR1.out⟩
theorem pow_two (k : Nat) : (256 : Nat) ^ k = 2 ^ (8 * k) := by rw [show (256 : Nat) = 2 ^ 8 from rfl, ← Nat.pow_mul]
set_option maxHeartbeats 2000000 in
theorem putNum_any {W : World} {A : Option Addr} {c : Nat} {s : List UInt8} (n k : Nat) (hB : BytesAt W A s.length s) (hn : A = none → c = 0) (hm : s.length ≤ 140737488351232) (hk1 : 1 ≤ k) (hk8 : k ≤ 8) (hnn : n < 9223372036854775808) :
  Calls Tryz.prog 62 #[.slice A s.length c, .int .i64 (n : Nat), .int .i64 (k : Nat)] W fun e w' => ∃ v, e = .returned v ∧ BRow W v (putB s n k) w' := by
 have HC := Lib.hid (Clone_any hB hn (by omega))
 have g1 : ¬ (n : Int) < 0 := by omega
 have g2 : ¬ (k : Int) < 1 := by omega
 have g3 : ¬ (8 : Int) < (k : Int) := by omega
 have hwk : IntKind.i64.wrap (8 * (k : Int)) = 8 * (k : Int) := IntWalk.i64_in _ (by omega)
 clear hB hn
 have hd : (n : Int) / 2 ^ (8 * k) = ((n / 256 ^ k : Nat) : Int) := by rw [pow_two]; simp
 by_cases hz : n / 256 ^ k = 0
 ·have hz1 : ((n : Int) / 2 ^ (8 * k) != 0) = false := by rw [hd, hz]; rfl
  have HP := Lib.hid (show putB s n k = s ++ putL n k by unfold putB; rw [if_pos ⟨by omega, by omega, by omega, by simpa using hz⟩]; simp)
  clear hd hz
  go_enter Tryz.func62, Tryz.ntmps62
  go_wp2_with (go_at_call 54; go_must ((with_reducible refine HC.out.mono ?_); rintro e' w1 ⟨v1, rfl, hR1⟩; have HR1 := Lib.hid hR1; clear hR1))
  go_loopw [7, 8] (fun v i wr => ∃ (j : Nat) (cs : List UInt8), i = .int .i64 ((j : Int) - 1) ∧ j ≤ k ∧ cs.length + j = s.length + k ∧ Hid (cs ++ putL n j = s ++ putL n k) ∧ Hid (BRow W v cs wr)) (fun _ i _ => (RowKit.intOf i + 1).toNat)
  case atStart => exact ⟨k, s, rfl, Nat.le_refl _, rfl, rfl, HR1.out⟩
  case round =>
   obtain ⟨j, cs, rfl, hj, hcl, HCS, HR⟩ := hrel
   cases j with
   |zero =>
    have hcs : cs = s ++ putL n k := by have := HCS.out; rwa [show putL n 0 = [] from rfl, List.append_nil] at this
    go_wp2_with fail
    go_ret
    refine ⟨_, rfl, ?_⟩
    rw [HP.out, ← hcs]
    exact HR.out
   |succ q =>
    have hq1 : (((q + 1 : Nat) : Int) - 1) = (q : Int) := by omega
    rw [hq1]
    have hw8 : IntKind.i64.wrap (8 * (q : Int)) = 8 * (q : Int) := IntWalk.i64_in _ (by omega)
    have hx : IntKind.u8.wrap ((n : Int) / 2 ^ (8 * q)) = (((UInt8.ofNat (n / 256 ^ q)).toNat : Nat) : Int) := by
     rw [UInt8.toNat_ofNat', show ((n : Int) / 2 ^ (8 * q)) = ((n / 256 ^ q : Nat) : Int) by rw [pow_two]; simp, IntKind.wrap_u8']
     omega
    have HX := Lib.hid (show putL n (q + 1) = UInt8.ofNat (n / 256 ^ q) :: putL n q from rfl)
    generalize UInt8.ofNat (n / 256 ^ q) = x at *
    clear hq1
    go_wp2_with (at_builtin; go_must (refine append_by (HR.out.on ((Below.refl _ _).alloc (Nat.le_refl _) _)) [x] _ 1 (bytes_lit (s := [x]) rfl) (fun e => by cases e) (by simp; omega) rfl _ _ rfl rfl rfl ?_; rintro v' w' HR'; have HR2 := Lib.hid HR'; clear HR'))
    refine ⟨⟨q, cs ++ [x], rfl, by omega, by rw [List.length_append]; simp only [List.length_cons, List.length_nil]; omega, ?_, HR2.out⟩, by simp [RowKit.intOf]⟩
    show _ = _
    rw [← HCS.out, HX.out, List.append_assoc]
    rfl
 ·have hz1 : ((n : Int) / 2 ^ (8 * k) != 0) = true := by rw [hd, bne_iff_ne]; omega
  have HP := Lib.hid (show putB s n k = s by unfold putB; rw [if_neg]; rintro ⟨-, -, -, h4⟩; exact hz (by simpa using h4))
  clear hd hz
  go_enter Tryz.func62, Tryz.ntmps62
  go_wp2_with (go_at_call 54; go_must ((with_reducible refine HC.out.mono ?_); rintro e' w1 ⟨v1, rfl, hR1⟩; have HR1 := Lib.hid hR1; clear hR1))
  go_ret
  exact ⟨_, rfl, by rw [HP.out]; exact HR1.out⟩
theorem PutNum_any {W : World} {A : Option Addr} {c : Nat} {s : List UInt8} (n k : Int) (hB : BytesAt W A s.length s) (hn : A = none → c = 0) (hm : s.length ≤ 140737488351232) (hnn : n ≤ 9223372036854775807) :
  Calls Tryz.prog 62 #[.slice A s.length c, .int .i64 n, .int .i64 k] W fun e w' => ∃ v, e = .returned v ∧ BRow W v (putB s n k) w' := by
 by_cases h : n < 0 ∨ k < 1 ∨ 8 < k
 ·exact putNum_bad n k hB hn hm h
 ·have := putNum_any (A := A) (c := c) n.toNat k.toNat hB hn hm (by omega) (by omega) (by omega)
  rwa [show ((n.toNat : Nat) : Int) = n by omega, show ((k.toNat : Nat) : Int) = k by omega] at this
end Go.Proofs.YtjlnjjmomohpaaaGreat

namespace Go.Proofs.YtjlnjjmomohpaaaGreat
open Go.RowKit Go.Lib


set_option maxHeartbeats 1000000 in
theorem rnum_bad {W : World} {A : Option Addr} {c n : Nat} (p k : Int) (h : k < 1 ∨ 7 < k ∨ p < 0) :
  Calls Tryz.prog 23 #[.slice A n c, .int .i64 p, .int .i64 k] W fun e w' => e = .returned (.tuple #[.int .i64 0, .int .i64 1]) ∧ w' = W := by
 by_cases h1 : k < 1
 ·go_enter Tryz.func23, Tryz.ntmps23
  go_wp2_with fail
  refine bodyPost_ret (v := .tuple #[.int .i64 0, .int .i64 1]) ?_ rfl ⟨rfl, rfl⟩
  simp [results, Tryz.results23, go_sem]
 ·by_cases h2 : 7 < k
  ·go_enter Tryz.func23, Tryz.ntmps23
   go_wp2_with fail
   refine bodyPost_ret (v := .tuple #[.int .i64 0, .int .i64 1]) ?_ rfl ⟨rfl, rfl⟩
   simp [results, Tryz.results23, go_sem]
  ·have h3 : p < 0 := by omega
   clear h
   go_enter Tryz.func23, Tryz.ntmps23
   go_wp2_with fail
   refine bodyPost_ret (v := .tuple #[.int .i64 0, .int .i64 1]) ?_ rfl ⟨rfl, rfl⟩
   simp [results, Tryz.results23, go_sem]
set_option maxHeartbeats 1000000 in
theorem rnum_short {W : World} {A : Option Addr} {c n : Nat} (p k : Int) (h1 : 1 ≤ k) (h2 : k ≤ 7) (h3 : 0 ≤ p) (hp : p ≤ 9223372036854775807) (hs : (n : Int) - p < k) (hm : n ≤ 140737488355328) :
  Calls Tryz.prog 23 #[.slice A n c, .int .i64 p, .int .i64 k] W fun e w' => e = .returned (.tuple #[.int .i64 0, .int .i64 14]) ∧ w' = W := by
 have hw : IntKind.i64.wrap ((n : Int) - p) = (n : Int) - p := IntWalk.i64_in _ (by omega)
 have g1 : ¬ k < 1 := by omega
 have g2 : ¬ 7 < k := by omega
 have g3 : ¬ p < 0 := by omega
 clear hp hm
 by_cases h4 : (n : Int) < p
 ·go_enter Tryz.func23, Tryz.ntmps23
  go_wp2_with fail
  refine bodyPost_ret (v := .tuple #[.int .i64 0, .int .i64 14]) ?_ rfl ⟨rfl, rfl⟩
  simp [results, Tryz.results23, go_sem]
 ·go_enter Tryz.func23, Tryz.ntmps23
  go_wp2_with fail
  refine bodyPost_ret (v := .tuple #[.int .i64 0, .int .i64 14]) ?_ rfl ⟨rfl, rfl⟩
  simp [results, Tryz.results23, go_sem]
set_option maxHeartbeats 2000000 in
theorem rnum_good {W : World} {A : Option Addr} {c : Nat} {s : List UInt8} (p k : Nat) (hB : BytesAt W A s.length s) (h1 : 1 ≤ k) (h2 : k ≤ 7) (hs : p + k ≤ s.length) (hm : s.length ≤ 140737488355328) :
  Calls Tryz.prog 23 #[.slice A s.length c, .int .i64 (p : Nat), .int .i64 (k : Nat)] W fun e w' => e = .returned (.tuple #[.int .i64 (numL ((s.drop p).take k) : Nat), .int .i64 0]) ∧ w' = W := by
 have hl : ((s.drop p).take k).length = k := by simp; omega
 have hg1 : ¬ (k : Int) < 1 := by omega
 have hg2 : ¬ (7 : Int) < (k : Int) := by omega
 have hg3 : ¬ (p : Int) < 0 := by omega
 have hg5 : ¬ (s.length : Int) < (p : Int) := by omega
 have hw1 : IntKind.i64.wrap ((s.length : Int) - (p : Int)) = (s.length : Int) - (p : Int) := IntWalk.i64_in _ (by omega)
 have hg4 : ¬ (s.length : Int) - (p : Int) < (k : Int) := by omega
 obtain ⟨t, ht⟩ : ∃ t, t = (s.drop p).take k := ⟨_, rfl⟩
 have HT := Lib.hid ht
 rw [← ht] at hl ⊢
 have HL := Lib.hid hl
 clear hl ht
 go_enter Tryz.func23, Tryz.ntmps23
 go_wp2_with fail
 go_loopw [8, 9] (fun v i wr => ∃ (j S : Nat), v = .int .i64 (S : Nat) ∧ i = .int .i64 j ∧ j ≤ k ∧ wr = W ∧ Hid (S = numFrom 0 (t.take j))) (fun _ i _ => k - (RowKit.intOf i).toNat)
 case atStart => exact ⟨0, 0, rfl, rfl, by omega, rfl, rfl⟩
 case round =>
  obtain ⟨j, S, rfl, rfl, hj, hw, HS⟩ := hrel
  have hw := hw.symm
  subst hw
  by_cases hlt : j < k
  ·have hl1 : (j : Int) < (k : Int) := by omega
   have hl0 : (0 : Int) ≤ (j : Int) := by omega
   obtain ⟨g, o, rfl, hcj⟩ := byte_at hB (show p + j < s.length by omega)
   have hjt : j < t.length := by rw [HL.out]; exact hlt
   have HN := Lib.hid (take_nextB hjt)
   have hxx : t[j] = s[p + j] := by
    have h1 : t[j]? = s[p + j]? := by rw [HT.out, List.getElem?_take_of_lt hlt, List.getElem?_drop]
    rw [List.getElem?_eq_getElem hjt, List.getElem?_eq_getElem (by omega)] at h1
    injection h1
   rw [hxx] at HN
   generalize s[p + j] = x at *
   have hS : S < 281474976710656 := by
    rw [HS.out]
    have := numL_lt (t.take j)
    have hjl : (t.take j).length = j := by rw [List.length_take, HL.out]; omega
    rw [hjl] at this
    exact Nat.lt_of_lt_of_le this (pow_le (by omega))
   have hx := x.toNat_lt
   have hwp : IntKind.i64.wrap ((p : Int) + (j : Int)) = ((p + j : Nat) : Int) := by rw [IntWalk.i64_in _ (by omega)]; omega
   have hwx : IntKind.i64.wrap ((S : Int) * 256) = (S : Int) * 256 := IntWalk.i64_in _ (by omega)
   have hwy : IntKind.i64.wrap ((x.toNat : Nat) : Int) = ((x.toNat : Nat) : Int) := IntWalk.i64_in _ (by omega)
   have hwz : IntKind.i64.wrap ((S : Int) * 256 + (x.toNat : Int)) = ((S * 256 + x.toNat : Nat) : Int) := by rw [IntWalk.i64_in _ (by omega)]; omega
   have hpj : ((p + j : Nat) : Int) < (s.length : Int) := by omega
   clear hxx hjt hB
   go_wp2_with fail
   refine ⟨⟨j + 1, S * 256 + x.toNat, by simp, by go_num, by omega, by first | rfl | trivial, ?_⟩, by simp [RowKit.intOf]; omega⟩
   show _ = _
   rw [HN.out, numFrom_snoc, ← HS.out]
  ·have hl1 : ¬ (j : Int) < (k : Int) := by omega
   have hv : Hid (numL t = S) := by
    show _ = _
    rw [HS.out, List.take_of_length_le (by rw [HL.out]; omega)]; rfl
   go_wp2_with fail
   refine bodyPost_ret (v := .tuple #[.int .i64 (S : Nat), .int .i64 0]) ?_ rfl ⟨by rw [hv.out], rfl⟩
   simp [results, Tryz.results23, go_sem]
theorem ref_Num {W : World} {A : Option Addr} {c : Nat} {s : List UInt8} (p k : Int) (hB : BytesAt W A s.length s) (hm : s.length ≤ 140737488355328) (hp : p ≤ 9223372036854775807) :
  Calls Tryz.prog 23 #[.slice A s.length c, .int .i64 p, .int .i64 k] W fun e w' => e = .returned (.tuple #[.int .i64 (nmV s p k : Nat), .int .i64 (nmE s p k)]) ∧ w' = W := by
 by_cases h1 : k < 1 ∨ 7 < k ∨ p < 0
 ·have he : nmE s p k = 1 := by unfold nmE; rw [if_pos h1]; rfl
  have hv : nmV s p k = 0 := by unfold nmV; rw [if_neg (by rw [he]; decide)]
  rw [he, hv]
  exact rnum_bad p k h1
 ·by_cases h2 : (s.length : Int) - p < k
  ·have he : nmE s p k = 14 := by unfold nmE; rw [if_neg h1, if_pos h2]; rfl
   have hv : nmV s p k = 0 := by unfold nmV; rw [if_neg (by rw [he]; decide)]
   rw [he, hv]
   exact rnum_short p k (by omega) (by omega) (by omega) hp h2 hm
  ·have he : nmE s p k = 0 := by unfold nmE; rw [if_neg h1, if_neg h2]
   have hv : nmV s p k = numL ((s.drop p.toNat).take k.toNat) := by unfold nmV; rw [if_pos he]
   rw [he, hv]
   have := rnum_good (A := A) (c := c) p.toNat k.toNat hB (by omega) (by omega) (by omega) hm
   rwa [show ((p.toNat : Nat) : Int) = p by omega, show ((k.toNat : Nat) : Int) = k by omega] at this


end Go.Proofs.YtjlnjjmomohpaaaGreat
