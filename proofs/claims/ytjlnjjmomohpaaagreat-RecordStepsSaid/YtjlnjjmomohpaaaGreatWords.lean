/- What the carries of math/bits answer in the model, and the contracts of the program's 128-bit numbers: sign, sum, difference, order. -/
import Derived.Test.YtjlnjjmomohpaaaGreatProg
import Derived.Test.YtjlnjjmomohpaaaGreatPlane
import Derived.WalkKit
import Derived.ProofKit
import Derived.OpenShut
import Derived.Handy
import Derived.Outline
import Derived.BigQuiet
import Derived.Deep.RegionHeld3
import Derived.Deep.RegionWith
import Derived.Laws.Externs
import Derived.Lib.Hide
namespace Go.Proofs.YtjlnjjmomohpaaaGreat
open Go.RowKit

theorem jA {α : Type} {xs : List α} {i : Nat} (h : i < xs.toArray.size) : xs.toArray[i] = xs[i]'(by simpa using h) := rfl
theorem jB {α : Type} {a : α} {u : List α} (h : 0 < (a :: u).length) : (a :: u)[0] = a := rfl
theorem jC {α : Type} {a : α} {u : List α} {i : Nat} (h : i + 1 < (a :: u).length) : (a :: u)[i + 1] = u[i]'(by simpa using h) := rfl
theorem jD {α : Type} {xs : List α} {i : Nat} {a : α} : xs.toArray.setIfInBounds i a = (xs.set i a).toArray := List.setIfInBounds_toArray ..
theorem jE {α : Type} {a b : α} {u : List α} : (a :: u).set 0 b = b :: u := rfl
theorem jF {α : Type} {a b : α} {u : List α} {n : Nat} : (a :: u).set (n + 1) b = a :: u.set n b := rfl
section
variable {P : Program} {ops : Array Oper} {Q : Exit → Act → World → Prop} {md : Region.Mode} {S : World → Prop}
theorem takeNone {i : Nat} {oi : Oper} {fuel : Nat} {listed : Array Bool} {a : Act} {w : World} (hr : (Region.ready md ops listed).contains i = true) (hi : ops[i]? = some oi)
  (hw : Region.wanted oi (yielded ops a.tmps) = false) (hf : Region.free md ops listed i = true) (hs : Region.noSelect ops = true)
  (hQ : ∀ c a w, Q (.panic c) (a.put oi.dst undef) w → Q (.panic c) a w) (hS : S w)
  (h : wpAnyH P md ops Q S fuel (listed.setIfInBounds i true) (a.put oi.dst undef) w) : wpAnyH P md ops Q S (fuel + 1) listed a w :=
 wpAnyH_take hi hs hf hr hQ (.inr ⟨hw, rfl⟩) hS h
theorem takeSome {i : Nat} {oi : Oper} {v : Value} {fuel : Nat} {listed : Array Bool} {a : Act} {w : World} (hr : (Region.ready md ops listed).contains i = true) (hi : ops[i]? = some oi)
  (hw : Region.wanted oi (yielded ops a.tmps) = true) (hf : Region.free md ops listed i = true) (hs : Region.noSelect ops = true)
  (hQ : ∀ c a w, Q (.panic c) (a.put oi.dst v) w → Q (.panic c) a w) (hS : S w) (hy : ∀ w, S w → (execOp a.eval oi).run P w = .ok (.value v) w)
  (h : wpAnyH P md ops Q S fuel (listed.setIfInBounds i true) (a.put oi.dst v) w) : wpAnyH P md ops Q S (fuel + 1) listed a w :=
 wpAnyH_take hi hs hf hr hQ (.inl ⟨hw, hy⟩) hS h
theorem tZ (i : Nat) {oi : Oper} {v : Value} {fuel : Nat} {listed : Array Bool} {a a' : Act} {w : World}
  (h : wpAnyH P md ops Q S fuel (listed.setIfInBounds i true) a' w)
  (hr : (Region.ready md ops listed).contains i = true := by decide +kernel) (hi : ops[i]? = some oi := by rfl) (hw : Region.wanted oi (yielded ops a.tmps) = true := by rfl)
  (hf : Region.free md ops listed i = true := by decide +kernel) (hs : Region.noSelect ops = true := by decide +kernel) (hQ : ∀ c a w, Q (.panic c) (a.put oi.dst v) w → Q (.panic c) a w := by exact fun _ _ _ h => h) (hS : S w := by assumption)
  (hy : ∀ w, S w → (execOp a.eval oi).run P w = .ok (.value v) w := by intro w0 hSw; (try dsimp only at hSw); go_simp; (try (with_reducible rfl)); done) (ha : a.put oi.dst v = a' := by (try simp only [Act.put, jA, jB, jC, jD, jE, jF]) <;> rfl) : wpAnyH P md ops Q S (fuel + 1) listed a w :=
 wpAnyH_take hi hs hf hr hQ (.inl ⟨hw, hy⟩) hS (ha ▸ h)
theorem pZ (i : Nat) {oi : Oper} {fuel : Nat} {listed : Array Bool} {a a' : Act} {w : World}
  (h : wpAnyH P md ops Q S fuel (listed.setIfInBounds i true) a' w)
  (hr : (Region.ready md ops listed).contains i = true := by decide +kernel) (hi : ops[i]? = some oi := by rfl) (hw : Region.wanted oi (yielded ops a.tmps) = false := by rfl)
  (hf : Region.free md ops listed i = true := by decide +kernel) (hs : Region.noSelect ops = true := by decide +kernel) (hQ : ∀ c a w, Q (.panic c) (a.put oi.dst undef) w → Q (.panic c) a w := by exact fun _ _ _ h => h) (hS : S w := by assumption) (ha : a.put oi.dst undef = a' := by (try simp only [Act.put, jA, jB, jC, jD, jE, jF]) <;> rfl) : wpAnyH P md ops Q S (fuel + 1) listed a w :=
 wpAnyH_take hi hs hf hr hQ (.inr ⟨hw, rfl⟩) hS (ha ▸ h)
end

theorem run_add (x y c : Int) (hx : 0 ≤ x) (hy : 0 ≤ y) (hc0 : 0 ≤ c) (hc : c ≤ 1) (w : World) :
  (callFunc 183 #[.int .u64 x, .int .u64 y, .int .u64 c]).run Tryz.prog w = .ok (.value (.tuple #[.int .u64 (asum x y c), .int .u64 (acar x y c)])) w := by
 rw [run_callFunc_extern Tryz.func183 (by kernel_rfl) (by kernel_rfl) (by kernel_rfl) (e := add64Entry) (by kernel_rfl), run_add64 x y c hx hy hc0 hc]
 rfl

def sub64Entry : Array Value → Sem Value := fun args => do
 let (x, y, b) ← Extern.MathBitsCarry.three "Sub64" args
 pure (Extern.MathBitsCarry.pair ((x + Extern.MathBitsCarry.m64 - y - b) % Extern.MathBitsCarry.m64) (if x < y + b then 1 else 0))

theorem run_sub64 {P : Program} (x y b : Int) (hx : 0 ≤ x) (hy : 0 ≤ y) (hy1 : y ≤ 18446744073709551615) (hb0 : 0 ≤ b) (hb : b ≤ 1) (w : World) :
  (sub64Entry #[.int .u64 x, .int .u64 y, .int .u64 b]).run P w = .ok (.tuple #[.int .u64 (sdif x y b), .int .u64 (sbor x y b)]) w := by
 have key : ∀ k : Nat, k ≤ 1 → (sub64Entry #[.int .u64 x, .int .u64 y, .int .u64 (k : Int)]).run P w =
   .ok (Extern.MathBitsCarry.pair ((x.toNat + Extern.MathBitsCarry.m64 - y.toNat - k) % Extern.MathBitsCarry.m64) (if x.toNat < y.toNat + k then 1 else 0)) w := by
  intro k hk
  have : k = 0 ∨ k = 1 := by omega
  rcases this with rfl | rfl <;> rfl
 obtain ⟨k, rfl⟩ := Int.eq_ofNat_of_zero_le hb0
 rw [key k (by omega)]
 obtain ⟨X, rfl⟩ := Int.eq_ofNat_of_zero_le hx
 obtain ⟨Y, rfl⟩ := Int.eq_ofNat_of_zero_le hy
 simp only [Extern.MathBitsCarry.pair, Extern.MathBitsCarry.m64, Int.toNat_natCast, sdif, sbor]
 have e1 : Int.ofNat ((X + 2 ^ 64 - Y - k) % 2 ^ 64) = ((X : Int) - Y - k) % 18446744073709551616 := by
  show (((X + 2 ^ 64 - Y - k) % 2 ^ 64 : Nat) : Int) = _
  omega
 have e2 : Int.ofNat (if X < Y + k then 1 else 0) = if (X : Int) < Y + k then 1 else 0 := by
  by_cases h : X < Y + k
  ·rw [if_pos h, if_pos (by omega)]; rfl
  ·rw [if_neg h, if_neg (by omega)]; rfl
 rw [e1, e2]

theorem run_sub (x y c : Int) (hx : 0 ≤ x) (hy : 0 ≤ y) (hy1 : y ≤ 18446744073709551615) (hc0 : 0 ≤ c) (hc : c ≤ 1) (w : World) :
  (callFunc 198 #[.int .u64 x, .int .u64 y, .int .u64 c]).run Tryz.prog w = .ok (.value (.tuple #[.int .u64 (sdif x y c), .int .u64 (sbor x y c)])) w := by
 rw [run_callFunc_extern Tryz.func198 (by kernel_rfl) (by kernel_rfl) (by kernel_rfl) (e := sub64Entry) (by kernel_rfl), run_sub64 x y c hx hy hy1 hc0 hc]
 rfl

theorem wrap_uw (h : Int) : IntKind.u64.wrap h = uw h := by rw [IntKind.wrap_u64]; rfl
theorem wrap_sw (h : Int) : wrap64 h = sw h := by unfold wrap64 sw; omega

set_option maxHeartbeats 400000 in
theorem neg_exact (h l : Int) (w : World) :
  Calls Tryz.prog 184 #[.agg #[.int .i64 h, .int .u64 l]] w fun e w' => e = .returned (.bool (ng h)) ∧ w' = w.alloc (.cells #[.int .i64 h, .int .u64 l] 215) := by
 go_enter Tryz.func184, Tryz.ntmps184
 go_wp2
 go_ret
 exact ⟨rfl, rfl⟩

theorem frz_alloc_some (w : World) (a : Addr) (o : Obj) (h : (w.cell? a).isSome = true) : (w.alloc o).frozen? a = w.frozen? a := by
 obtain ⟨u, hu⟩ := Option.isSome_iff_exists.1 h
 exact World.frozen?_alloc_old _ _ _ (Nat.ne_of_lt (World.block_lt_of_cell? w a hu))

structure Six (w : World) (b1 b2 : Nat) (a b c d e f : Value) (W : World) : Prop where
 c0 : W.cell? ⟨w.heap.size, 0, none⟩ = some a
 c1 : W.cell? ⟨w.heap.size, 1, none⟩ = some b
 c2 : W.cell? ⟨b1, 0, none⟩ = some c
 c3 : W.cell? ⟨b1, 1, none⟩ = some d
 c4 : W.cell? ⟨b2, 0, none⟩ = some e
 c5 : W.cell? ⟨b2, 1, none⟩ = some f
 f4 : W.frozen? ⟨b2, 0, none⟩ = false
 f5 : W.frozen? ⟨b2, 1, none⟩ = false
 below : Below w.heap.size w W
 le : w.heap.size ≤ b2
 ne0 : w.heap.size ≠ b2
 ne1 : b1 ≠ b2
theorem six_of (w : World) (a b c d e f : Value) (t : TypeId) :
  Six w (w.heap.size + 1) (w.heap.size + 1 + 1) a b c d e f (((w.alloc (Obj.cells #[a, b] t)).alloc (Obj.cells #[c, d] t)).alloc (Obj.cells #[e, f] t)) := by
 have h2 : ∀ i, (((w.alloc (Obj.cells #[a, b] t)).alloc (Obj.cells #[c, d] t)).alloc (Obj.cells #[e, f] t)).cell? ⟨w.heap.size + 1 + 1, i, none⟩ = #[e, f][i]? := fun i => World.cell?_alloc_at _ _ _ _ (by simp)
 have h1 : ∀ i, (((w.alloc (Obj.cells #[a, b] t)).alloc (Obj.cells #[c, d] t)).alloc (Obj.cells #[e, f] t)).cell? ⟨w.heap.size + 1, i, none⟩ = #[c, d][i]? := fun i => by
  rw [World.cell?_alloc_past _ _ _ (by simp)]; exact World.cell?_alloc_at _ _ _ _ (by simp)
 have h0 : ∀ i, (((w.alloc (Obj.cells #[a, b] t)).alloc (Obj.cells #[c, d] t)).alloc (Obj.cells #[e, f] t)).cell? ⟨w.heap.size, i, none⟩ = #[a, b][i]? := fun i => by
  rw [World.cell?_alloc_past _ _ _ (by simp; omega), World.cell?_alloc_past _ _ _ (by simp)]; exact World.cell?_alloc_at _ _ _ _ rfl
 have hh : (((w.alloc (Obj.cells #[a, b] t)).alloc (Obj.cells #[c, d] t)).alloc (Obj.cells #[e, f] t)).heap[w.heap.size + 1 + 1]? = some (.cells #[e, f] t (0, 0)) := by
  have h3 := heap_alloc_new ((w.alloc (Obj.cells #[a, b] t)).alloc (Obj.cells #[c, d] t)) (Obj.cells #[e, f] t)
  simp only [World.size_alloc] at h3
  exact h3
 have hf : ∀ i, (((w.alloc (Obj.cells #[a, b] t)).alloc (Obj.cells #[c, d] t)).alloc (Obj.cells #[e, f] t)).frozen? ⟨w.heap.size + 1 + 1, i, none⟩ = false := fun i => by simp only [World.frozen?, hh]; simp
 exact ⟨h0 0, h0 1, h1 0, h1 1, h2 0, h2 1, hf 0, hf 1, by go_grown, by omega, by omega, by omega⟩
theorem Six.alloc {w : World} {b1 b2 : Nat} {a b c d e f : Value} {W : World} (h : Six w b1 b2 a b c d e f W) (o : Obj) : Six w b1 b2 a b c d e f (W.alloc o) :=
  ⟨(World.cell?_alloc_some _ _ _ (by rw [h.c0]; rfl)).trans h.c0, (World.cell?_alloc_some _ _ _ (by rw [h.c1]; rfl)).trans h.c1, (World.cell?_alloc_some _ _ _ (by rw [h.c2]; rfl)).trans h.c2, (World.cell?_alloc_some _ _ _ (by rw [h.c3]; rfl)).trans h.c3, (World.cell?_alloc_some _ _ _ (by rw [h.c4]; rfl)).trans h.c4, (World.cell?_alloc_some _ _ _ (by rw [h.c5]; rfl)).trans h.c5,
   (frz_alloc_some _ _ _ (by rw [h.c4]; rfl)).trans h.f4, (frz_alloc_some _ _ _ (by rw [h.c5]; rfl)).trans h.f5, h.below.alloc h.below.size _, h.le, h.ne0, h.ne1⟩
theorem Six.drew {w : World} {b1 b2 : Nat} {a b c d e f : Value} {W : World} (h : Six w b1 b2 a b c d e f W) : Six w b1 b2 a b c d e f W.drew :=
 ⟨h.c0, h.c1, h.c2, h.c3, h.c4, h.c5, h.f4, h.f5, h.below.drew, h.le, h.ne0, h.ne1⟩
theorem Six.cells {w : World} {b1 b2 : Nat} {a b c d e f : Value} {W : World} (h : Six w b1 b2 a b c d e f W) : W.cell? ⟨w.heap.size, 0, none⟩ = some a ∧ W.cell? ⟨w.heap.size, 1, none⟩ = some b ∧ W.cell? ⟨b1, 0, none⟩ = some c ∧ W.cell? ⟨b1, 1, none⟩ = some d ∧ W.cell? ⟨b2, 0, none⟩ = some e ∧ W.cell? ⟨b2, 1, none⟩ = some f := ⟨h.c0, h.c1, h.c2, h.c3, h.c4, h.c5⟩
theorem Six.store {w : World} {b1 b2 : Nat} {a b c d e f : Value} {W : World} (h : Six w b1 b2 a b c d e f W) : Six w b1 b2 a b c d e f ((W.setCell ⟨b2, 0, none⟩ e).setCell ⟨b2, 1, none⟩ f) := by
 have far : ∀ (g i : Nat), g ≠ b2 → ((W.setCell ⟨b2, 0, none⟩ e).setCell ⟨b2, 1, none⟩ f).cell? ⟨g, i, none⟩ = W.cell? ⟨g, i, none⟩ := fun g i hg => by
  rw [World.cell?_setCell_far _ _ _ _ (by simpa using Ne.symm hg), World.cell?_setCell_far _ _ _ _ (by simpa using Ne.symm hg)]
 have s0 : (W.setCell ⟨b2, 0, none⟩ e).cell? ⟨b2, 0, none⟩ = some e := World.cell?_setCell_same _ _ _ h.c4
 have s1 : (W.setCell ⟨b2, 0, none⟩ e).cell? ⟨b2, 1, none⟩ = some f := (World.cell?_setCell_other _ _ _ _ (by simp)).trans h.c5
 exact ⟨(far _ _ h.ne0).trans h.c0, (far _ _ h.ne0).trans h.c1, (far _ _ h.ne1).trans h.c2, (far _ _ h.ne1).trans h.c3, (World.cell?_setCell_other _ _ _ _ (by simp)).trans s0, World.cell?_setCell_same _ _ _ s1,
  by rw [World.frozen?_setCell, World.frozen?_setCell]; exact h.f4, by rw [World.frozen?_setCell, World.frozen?_setCell]; exact h.f5, (h.below.setCell h.le _).setCell h.le _, h.le, h.ne0, h.ne1⟩
theorem neg_six (h l : Int) {w : World} {b1 b2 : Nat} {a b c d e f : Value} {W : World} (hs : Six w b1 b2 a b c d e f W) :
  Calls Tryz.prog 184 #[.agg #[.int .i64 h, .int .u64 l]] W fun r w' => r = .returned (.bool (ng h)) ∧ Six w b1 b2 a b c d e f w' :=
 (neg_exact h l W).mono fun _ _ ⟨he, hw⟩ => ⟨he, by rw [hw]; exact hs.alloc _⟩

set_option maxHeartbeats 1000000 in
theorem plus_same (h l h' l' : Int) (wf : Wf h l) (wf' : Wf h' l') (hg : (ng h == ng h') = true) (w : World) :
  Calls Tryz.prog 165 #[.agg #[.int .i64 h, .int .u64 l], .agg #[.int .i64 h', .int .u64 l']] w fun e w' => e = .returned (.tuple #[.agg #[.int .i64 (pHi h l h' l'), .int .u64 (pLo l l')], .bool (pFit h l h' l')]) ∧ Below w.heap.size w w' := by
 have e1 := fun W => run_add l l' 0 wf.2.2.1 wf'.2.2.1 (by omega) (by omega) W
 have e2 := fun W => run_add (IntKind.u64.wrap h) (IntKind.u64.wrap h') (acar l l' 0) (by rw [wrap_uw]; unfold uw; omega) (by rw [wrap_uw]; unfold uw; omega) (by unfold Wf at wf wf'; unfold acar; omega) (by unfold Wf at wf wf'; unfold acar; omega) W
 clear wf wf'
 have HF : Hid (pFit h l h' l' = (!(ng h == ng h') || (ng h == ng (pHi h l h' l')))) := rfl
 go_enter Tryz.func165, Tryz.ntmps165
 go_wp2
 rw [wrap_sw, wrap_uw, wrap_uw, ← pHi, ← pLo]
 generalize hb1 : w.heap.size + 1 = b1
 generalize hb2 : b1 + 1 = b2
 have HS := six_of w (.int .i64 h) (.int .u64 l) (.int .i64 h') (.int .u64 l') (.int .i64 (pHi h l h' l')) (.int .u64 (pLo l l')) 215
 rw [hb1, hb2] at HS
 generalize (((w.alloc _).alloc _).alloc _) = W at HS ⊢
 clear hb1 hb2 e1 e2
 have c0 := HS.c0; have c1 := HS.c1; have c2 := HS.c2; have c3 := HS.c3; have c4 := HS.c4; have c5 := HS.c5; have f4 := HS.f4; have f5 := HS.f5
 have n0 := HS.ne0; have n1 := HS.ne1; have n0' := Ne.symm n0; have n1' := Ne.symm n1
 go_region_held3 (fun w' => w'.cell? ⟨w.heap.size, 0, none⟩ = some (.int .i64 h) ∧ w'.cell? ⟨w.heap.size, 1, none⟩ = some (.int .u64 l) ∧ w'.cell? ⟨b1, 0, none⟩ = some (.int .i64 h') ∧ w'.cell? ⟨b1, 1, none⟩ = some (.int .u64 l') ∧ w'.cell? ⟨b2, 0, none⟩ = some (.int .i64 (pHi h l h' l')) ∧ w'.cell? ⟨b2, 1, none⟩ = some (.int .u64 (pLo l l'))) ((first | exact Six.cells (by assumption) | exact Six.cells (Six.drew (by assumption)) | exact Six.cells (Six.store (by assumption)))) (first | (go_at_call 184; refine (neg_six _ _ (by first | assumption | exact Six.drew (by assumption))).mono ?_; rintro e w' ⟨rfl, hs⟩; have c0 := hs.c0; have c1 := hs.c1; have c2 := hs.c2; have c3 := hs.c3; have c4 := hs.c4; have c5 := hs.c5; have f4 := hs.f4; have f5 := hs.f5))
 go_wp2
 refine bodyPost_ret (v := .tuple #[.agg #[.int .i64 (pHi h l h' l'), .int .u64 (pLo l l')], .bool (pFit h l h' l')]) ?_ rfl ⟨rfl, ?_⟩
 ·rw [HF.out, hg]
  have hq := (Six.store hs).cells
  simp [results, Tryz.results165, go_sem, hq]
 ·exact (hs.below.setCell hs.le _).setCell hs.le _
set_option maxHeartbeats 1000000 in
theorem plus_apart (h l h' l' : Int) (wf : Wf h l) (wf' : Wf h' l') (hg : (ng h == ng h') = false) (w : World) :
  Calls Tryz.prog 165 #[.agg #[.int .i64 h, .int .u64 l], .agg #[.int .i64 h', .int .u64 l']] w fun e w' => e = .returned (.tuple #[.agg #[.int .i64 (pHi h l h' l'), .int .u64 (pLo l l')], .bool (pFit h l h' l')]) ∧ Below w.heap.size w w' := by
 have e1 := fun W => run_add l l' 0 wf.2.2.1 wf'.2.2.1 (by omega) (by omega) W
 have e2 := fun W => run_add (IntKind.u64.wrap h) (IntKind.u64.wrap h') (acar l l' 0) (by rw [wrap_uw]; unfold uw; omega) (by rw [wrap_uw]; unfold uw; omega) (by unfold Wf at wf wf'; unfold acar; omega) (by unfold Wf at wf wf'; unfold acar; omega) W
 clear wf wf'
 have HF : Hid (pFit h l h' l' = (!(ng h == ng h') || (ng h == ng (pHi h l h' l')))) := rfl
 go_enter Tryz.func165, Tryz.ntmps165
 go_wp2
 rw [wrap_sw, wrap_uw, wrap_uw, ← pHi, ← pLo]
 generalize hb1 : w.heap.size + 1 = b1
 generalize hb2 : b1 + 1 = b2
 have HS := six_of w (.int .i64 h) (.int .u64 l) (.int .i64 h') (.int .u64 l') (.int .i64 (pHi h l h' l')) (.int .u64 (pLo l l')) 215
 rw [hb1, hb2] at HS
 generalize (((w.alloc _).alloc _).alloc _) = W at HS ⊢
 clear hb1 hb2 e1 e2
 have c0 := HS.c0; have c1 := HS.c1; have c2 := HS.c2; have c3 := HS.c3; have c4 := HS.c4; have c5 := HS.c5; have f4 := HS.f4; have f5 := HS.f5
 have n0 := HS.ne0; have n1 := HS.ne1; have n0' := Ne.symm n0; have n1' := Ne.symm n1
 refine wp_region_held_drew (S := (fun w' => w'.cell? ⟨w.heap.size, 0, none⟩ = some (.int .i64 h) ∧ w'.cell? ⟨w.heap.size, 1, none⟩ = some (.int .u64 l) ∧ w'.cell? ⟨b1, 0, none⟩ = some (.int .i64 h') ∧ w'.cell? ⟨b1, 1, none⟩ = some (.int .u64 l') ∧ w'.cell? ⟨b2, 0, none⟩ = some (.int .i64 (pHi h l h' l')) ∧ w'.cell? ⟨b2, 1, none⟩ = some (.int .u64 (pLo l l')))) (by kernel_rfl) ?_ (fun hHeld => ?_)
 ·(try dsimp only)
  (first | exact Six.cells (by assumption) | exact Six.cells (Six.drew (by assumption)) | exact Six.cells (Six.store (by assumption)))
 repeat' (first
  |(refine wpAnyH_done (by decide +kernel) ?_ _)
  |(refine takeNone (i := 0) (by decide +kernel) rfl (by rfl) (by decide +kernel) (by decide +kernel) (fun _ _ _ h => h) (by assumption) ?_; (try simp only [Act.put, jA, jB, jD, jE, jF]))
  |(refine takeSome (i := 0) (v := ?_) (by decide +kernel) rfl (by rfl) (by decide +kernel) (by decide +kernel) (fun _ _ _ h => h) (by assumption) ?_ ?_; rotate_left; (focus (intro w0 hSw; (try dsimp only at hSw); go_simp; (try (with_reducible rfl)); done)); (try simp only [Act.put, jA, jB, jD, jE, jF]))
  |(refine takeNone (i := 1) (by decide +kernel) rfl (by rfl) (by decide +kernel) (by decide +kernel) (fun _ _ _ h => h) (by assumption) ?_; (try simp only [Act.put, jA, jB, jC, jD, jE, jF]))
  |(refine takeSome (i := 1) (v := ?_) (by decide +kernel) rfl (by rfl) (by decide +kernel) (by decide +kernel) (fun _ _ _ h => h) (by assumption) ?_ ?_; rotate_left; (focus (intro w0 hSw; (try dsimp only at hSw); go_simp; (try (with_reducible rfl)); done)); (try simp only [Act.put, jA, jB, jC, jD, jE, jF]))
  |(refine takeNone (i := 2) (by decide +kernel) rfl (by rfl) (by decide +kernel) (by decide +kernel) (fun _ _ _ h => h) (by assumption) ?_; (try simp only [Act.put, jA, jB, jC, jD, jE, jF]))
  |(refine takeSome (i := 2) (v := ?_) (by decide +kernel) rfl (by rfl) (by decide +kernel) (by decide +kernel) (fun _ _ _ h => h) (by assumption) ?_ ?_; rotate_left; (focus (intro w0 hSw; (try dsimp only at hSw); go_simp; (try (with_reducible rfl)); done)); (try simp only [Act.put, jA, jB, jC, jD, jE, jF]))
  |(refine takeNone (i := 3) (by decide +kernel) rfl (by rfl) (by decide +kernel) (by decide +kernel) (fun _ _ _ h => h) (by assumption) ?_; (try simp only [Act.put, jA, jB, jC, jD, jE, jF]))
  |(refine takeSome (i := 3) (v := ?_) (by decide +kernel) rfl (by rfl) (by decide +kernel) (by decide +kernel) (fun _ _ _ h => h) (by assumption) ?_ ?_; rotate_left; (focus (intro w0 hSw; (try dsimp only at hSw); go_simp; (try (with_reducible rfl)); done)); (try simp only [Act.put, jA, jB, jC, jD, jE, jF]))
  |(refine takeNone (i := 4) (by decide +kernel) rfl (by rfl) (by decide +kernel) (by decide +kernel) (fun _ _ _ h => h) (by assumption) ?_; (try simp only [Act.put, jA, jB, jC, jD, jE, jF]))
  |(refine takeSome (i := 4) (v := ?_) (by decide +kernel) rfl (by rfl) (by decide +kernel) (by decide +kernel) (fun _ _ _ h => h) (by assumption) ?_ ?_; rotate_left; (focus (intro w0 hSw; (try dsimp only at hSw); go_simp; (try (with_reducible rfl)); done)); (try simp only [Act.put, jA, jB, jC, jD, jE, jF]))
  |(refine takeNone (i := 5) (by decide +kernel) rfl (by rfl) (by decide +kernel) (by decide +kernel) (fun _ _ _ h => h) (by assumption) ?_; (try simp only [Act.put, jA, jB, jC, jD, jE, jF]))
  |(refine takeSome (i := 5) (v := ?_) (by decide +kernel) rfl (by rfl) (by decide +kernel) (by decide +kernel) (fun _ _ _ h => h) (by assumption) ?_ ?_; rotate_left; (focus (intro w0 hSw; (try dsimp only at hSw); go_simp; (try (with_reducible rfl)); done)); (try simp only [Act.put, jA, jB, jC, jD, jE, jF]))
  |(refine takeNone (i := 6) (by decide +kernel) rfl (by rfl) (by decide +kernel) (by decide +kernel) (fun _ _ _ h => h) (by assumption) ?_; (try simp only [Act.put, jA, jB, jC, jD, jE, jF]))
  |(refine takeSome (i := 6) (v := ?_) (by decide +kernel) rfl (by rfl) (by decide +kernel) (by decide +kernel) (fun _ _ _ h => h) (by assumption) ?_ ?_; rotate_left; (focus (intro w0 hSw; (try dsimp only at hSw); go_simp; (try (with_reducible rfl)); done)); (try simp only [Act.put, jA, jB, jC, jD, jE, jF]))
  |(refine takeNone (i := 7) (by decide +kernel) rfl (by rfl) (by decide +kernel) (by decide +kernel) (fun _ _ _ h => h) (by assumption) ?_; (try simp only [Act.put, jA, jB, jC, jD, jE, jF]))
  |(refine takeSome (i := 7) (v := ?_) (by decide +kernel) rfl (by rfl) (by decide +kernel) (by decide +kernel) (fun _ _ _ h => h) (by assumption) ?_ ?_; rotate_left; (focus (intro w0 hSw; (try dsimp only at hSw); go_simp; (try (with_reducible rfl)); done)); (try simp only [Act.put, jA, jB, jC, jD, jE, jF]))
  |(refine takeNone (i := 8) (by decide +kernel) rfl (by rfl) (by decide +kernel) (by decide +kernel) (fun _ _ _ h => h) (by assumption) ?_; (try simp only [Act.put, jA, jB, jC, jD, jE, jF]))
  |(refine takeSome (i := 8) (v := ?_) (by decide +kernel) rfl (by rfl) (by decide +kernel) (by decide +kernel) (fun _ _ _ h => h) (by assumption) ?_ ?_; rotate_left; (focus (intro w0 hSw; (try dsimp only at hSw); go_simp; (try (with_reducible rfl)); done)); (try simp only [Act.put, jA, jB, jC, jD, jE, jF]))
  |(refine takeNone (i := 9) (by decide +kernel) rfl (by rfl) (by decide +kernel) (by decide +kernel) (fun _ _ _ h => h) (by assumption) ?_; (try simp only [Act.put, jA, jB, jC, jD, jE, jF]))
  |(refine takeSome (i := 9) (v := ?_) (by decide +kernel) rfl (by rfl) (by decide +kernel) (by decide +kernel) (fun _ _ _ h => h) (by assumption) ?_ ?_; rotate_left; (focus (intro w0 hSw; (try dsimp only at hSw); go_simp; (try (with_reducible rfl)); done)); (try simp only [Act.put, jA, jB, jC, jD, jE, jF]))
  |(refine takeNone (i := 10) (by decide +kernel) rfl (by rfl) (by decide +kernel) (by decide +kernel) (fun _ _ _ h => h) (by assumption) ?_; (try simp only [Act.put, jA, jB, jC, jD, jE, jF]))
  |(refine takeSome (i := 10) (v := ?_) (by decide +kernel) rfl (by rfl) (by decide +kernel) (by decide +kernel) (fun _ _ _ h => h) (by assumption) ?_ ?_; rotate_left; (focus (intro w0 hSw; (try dsimp only at hSw); go_simp; (try (with_reducible rfl)); done)); (try simp only [Act.put, jA, jB, jC, jD, jE, jF]))
  |(refine takeNone (i := 11) (by decide +kernel) rfl (by rfl) (by decide +kernel) (by decide +kernel) (fun _ _ _ h => h) (by assumption) ?_; (try simp only [Act.put, jA, jB, jC, jD, jE, jF]))
  |(refine takeSome (i := 11) (v := ?_) (by decide +kernel) rfl (by rfl) (by decide +kernel) (by decide +kernel) (fun _ _ _ h => h) (by assumption) ?_ ?_; rotate_left; (focus (intro w0 hSw; (try dsimp only at hSw); go_simp; (try (with_reducible rfl)); done)); (try simp only [Act.put, jA, jB, jC, jD, jE, jF]))
  |(refine takeNone (i := 12) (by decide +kernel) rfl (by rfl) (by decide +kernel) (by decide +kernel) (fun _ _ _ h => h) (by assumption) ?_; (try simp only [Act.put, jA, jB, jC, jD, jE, jF]))
  |(refine takeSome (i := 12) (v := ?_) (by decide +kernel) rfl (by rfl) (by decide +kernel) (by decide +kernel) (fun _ _ _ h => h) (by assumption) ?_ ?_; rotate_left; (focus (intro w0 hSw; (try dsimp only at hSw); go_simp; (try (with_reducible rfl)); done)); (try simp only [Act.put, jA, jB, jC, jD, jE, jF]))
  |(refine takeNone (i := 13) (by decide +kernel) rfl (by rfl) (by decide +kernel) (by decide +kernel) (fun _ _ _ h => h) (by assumption) ?_; (try simp only [Act.put, jA, jB, jC, jD, jE, jF]))
  |(refine takeSome (i := 13) (v := ?_) (by decide +kernel) rfl (by rfl) (by decide +kernel) (by decide +kernel) (fun _ _ _ h => h) (by assumption) ?_ ?_; rotate_left; (focus (intro w0 hSw; (try dsimp only at hSw); go_simp; (try (with_reducible rfl)); done)); (try simp only [Act.put, jA, jB, jC, jD, jE, jF]))
  |(refine takeNone (i := 14) (by decide +kernel) rfl (by rfl) (by decide +kernel) (by decide +kernel) (fun _ _ _ h => h) (by assumption) ?_; (try simp only [Act.put, jA, jB, jC, jD, jE, jF]))
  |(refine takeSome (i := 14) (v := ?_) (by decide +kernel) rfl (by rfl) (by decide +kernel) (by decide +kernel) (fun _ _ _ h => h) (by assumption) ?_ ?_; rotate_left; (focus (intro w0 hSw; (try dsimp only at hSw); go_simp; (try (with_reducible rfl)); done)); (try simp only [Act.put, jA, jB, jC, jD, jE, jF]))
  |(refine wpAnyH_ready (rs := [0]) (by decide +kernel) (by simp) ?_; refine AllReadyH.cons rfl (fun K hK => ?_) AllReadyH.nil; (try simp only [jA, jB, jC]); go_simp; (first | (go_at_call 184; refine (neg_six _ _ (by first | assumption | exact Six.drew (by assumption))).mono ?_; rintro e w' ⟨rfl, hs⟩; have c0 := hs.c0; have c1 := hs.c1; have c2 := hs.c2; have c3 := hs.c3; have c4 := hs.c4; have c5 := hs.c5; have f4 := hs.f4; have f5 := hs.f5) | skip); refine hK.out _ _ ?_ (fun hHeld => ?_); (focus ((try dsimp only); (first | exact Six.cells (by assumption) | exact Six.cells (Six.drew (by assumption)) | exact Six.cells (Six.store (by assumption))); done)); clear hK K; (try simp only [Act.put, jA, jB, jC, jD, jE, jF]))
  |(refine wpAnyH_ready (rs := [1]) (by decide +kernel) (by simp) ?_; refine AllReadyH.cons rfl (fun K hK => ?_) AllReadyH.nil; (try simp only [jA, jB, jC]); go_simp; (first | (go_at_call 184; refine (neg_six _ _ (by first | assumption | exact Six.drew (by assumption))).mono ?_; rintro e w' ⟨rfl, hs⟩; have c0 := hs.c0; have c1 := hs.c1; have c2 := hs.c2; have c3 := hs.c3; have c4 := hs.c4; have c5 := hs.c5; have f4 := hs.f4; have f5 := hs.f5) | skip); refine hK.out _ _ ?_ (fun hHeld => ?_); (focus ((try dsimp only); (first | exact Six.cells (by assumption) | exact Six.cells (Six.drew (by assumption)) | exact Six.cells (Six.store (by assumption))); done)); clear hK K; (try simp only [Act.put, jA, jB, jC, jD, jE, jF]))
  |(refine wpAnyH_ready (rs := [2]) (by decide +kernel) (by simp) ?_; refine AllReadyH.cons rfl (fun K hK => ?_) AllReadyH.nil; (try simp only [jA, jB, jC]); go_simp; (first | (go_at_call 184; refine (neg_six _ _ (by first | assumption | exact Six.drew (by assumption))).mono ?_; rintro e w' ⟨rfl, hs⟩; have c0 := hs.c0; have c1 := hs.c1; have c2 := hs.c2; have c3 := hs.c3; have c4 := hs.c4; have c5 := hs.c5; have f4 := hs.f4; have f5 := hs.f5) | skip); refine hK.out _ _ ?_ (fun hHeld => ?_); (focus ((try dsimp only); (first | exact Six.cells (by assumption) | exact Six.cells (Six.drew (by assumption)) | exact Six.cells (Six.store (by assumption))); done)); clear hK K; (try simp only [Act.put, jA, jB, jC, jD, jE, jF]))
  |(refine wpAnyH_ready (rs := [3]) (by decide +kernel) (by simp) ?_; refine AllReadyH.cons rfl (fun K hK => ?_) AllReadyH.nil; (try simp only [jA, jB, jC]); go_simp; (first | (go_at_call 184; refine (neg_six _ _ (by first | assumption | exact Six.drew (by assumption))).mono ?_; rintro e w' ⟨rfl, hs⟩; have c0 := hs.c0; have c1 := hs.c1; have c2 := hs.c2; have c3 := hs.c3; have c4 := hs.c4; have c5 := hs.c5; have f4 := hs.f4; have f5 := hs.f5) | skip); refine hK.out _ _ ?_ (fun hHeld => ?_); (focus ((try dsimp only); (first | exact Six.cells (by assumption) | exact Six.cells (Six.drew (by assumption)) | exact Six.cells (Six.store (by assumption))); done)); clear hK K; (try simp only [Act.put, jA, jB, jC, jD, jE, jF]))
  |(refine wpAnyH_ready (rs := [4]) (by decide +kernel) (by simp) ?_; refine AllReadyH.cons rfl (fun K hK => ?_) AllReadyH.nil; (try simp only [jA, jB, jC]); go_simp; (first | (go_at_call 184; refine (neg_six _ _ (by first | assumption | exact Six.drew (by assumption))).mono ?_; rintro e w' ⟨rfl, hs⟩; have c0 := hs.c0; have c1 := hs.c1; have c2 := hs.c2; have c3 := hs.c3; have c4 := hs.c4; have c5 := hs.c5; have f4 := hs.f4; have f5 := hs.f5) | skip); refine hK.out _ _ ?_ (fun hHeld => ?_); (focus ((try dsimp only); (first | exact Six.cells (by assumption) | exact Six.cells (Six.drew (by assumption)) | exact Six.cells (Six.store (by assumption))); done)); clear hK K; (try simp only [Act.put, jA, jB, jC, jD, jE, jF]))
  |(refine wpAnyH_ready (rs := [5]) (by decide +kernel) (by simp) ?_; refine AllReadyH.cons rfl (fun K hK => ?_) AllReadyH.nil; (try simp only [jA, jB, jC]); go_simp; (first | (go_at_call 184; refine (neg_six _ _ (by first | assumption | exact Six.drew (by assumption))).mono ?_; rintro e w' ⟨rfl, hs⟩; have c0 := hs.c0; have c1 := hs.c1; have c2 := hs.c2; have c3 := hs.c3; have c4 := hs.c4; have c5 := hs.c5; have f4 := hs.f4; have f5 := hs.f5) | skip); refine hK.out _ _ ?_ (fun hHeld => ?_); (focus ((try dsimp only); (first | exact Six.cells (by assumption) | exact Six.cells (Six.drew (by assumption)) | exact Six.cells (Six.store (by assumption))); done)); clear hK K; (try simp only [Act.put, jA, jB, jC, jD, jE, jF]))
  |(refine wpAnyH_ready (rs := [6]) (by decide +kernel) (by simp) ?_; refine AllReadyH.cons rfl (fun K hK => ?_) AllReadyH.nil; (try simp only [jA, jB, jC]); go_simp; (first | (go_at_call 184; refine (neg_six _ _ (by first | assumption | exact Six.drew (by assumption))).mono ?_; rintro e w' ⟨rfl, hs⟩; have c0 := hs.c0; have c1 := hs.c1; have c2 := hs.c2; have c3 := hs.c3; have c4 := hs.c4; have c5 := hs.c5; have f4 := hs.f4; have f5 := hs.f5) | skip); refine hK.out _ _ ?_ (fun hHeld => ?_); (focus ((try dsimp only); (first | exact Six.cells (by assumption) | exact Six.cells (Six.drew (by assumption)) | exact Six.cells (Six.store (by assumption))); done)); clear hK K; (try simp only [Act.put, jA, jB, jC, jD, jE, jF]))
  |(refine wpAnyH_ready (rs := [7]) (by decide +kernel) (by simp) ?_; refine AllReadyH.cons rfl (fun K hK => ?_) AllReadyH.nil; (try simp only [jA, jB, jC]); go_simp; (first | (go_at_call 184; refine (neg_six _ _ (by first | assumption | exact Six.drew (by assumption))).mono ?_; rintro e w' ⟨rfl, hs⟩; have c0 := hs.c0; have c1 := hs.c1; have c2 := hs.c2; have c3 := hs.c3; have c4 := hs.c4; have c5 := hs.c5; have f4 := hs.f4; have f5 := hs.f5) | skip); refine hK.out _ _ ?_ (fun hHeld => ?_); (focus ((try dsimp only); (first | exact Six.cells (by assumption) | exact Six.cells (Six.drew (by assumption)) | exact Six.cells (Six.store (by assumption))); done)); clear hK K; (try simp only [Act.put, jA, jB, jC, jD, jE, jF]))
  |(refine wpAnyH_ready (rs := [8]) (by decide +kernel) (by simp) ?_; refine AllReadyH.cons rfl (fun K hK => ?_) AllReadyH.nil; (try simp only [jA, jB, jC]); go_simp; (first | (go_at_call 184; refine (neg_six _ _ (by first | assumption | exact Six.drew (by assumption))).mono ?_; rintro e w' ⟨rfl, hs⟩; have c0 := hs.c0; have c1 := hs.c1; have c2 := hs.c2; have c3 := hs.c3; have c4 := hs.c4; have c5 := hs.c5; have f4 := hs.f4; have f5 := hs.f5) | skip); refine hK.out _ _ ?_ (fun hHeld => ?_); (focus ((try dsimp only); (first | exact Six.cells (by assumption) | exact Six.cells (Six.drew (by assumption)) | exact Six.cells (Six.store (by assumption))); done)); clear hK K; (try simp only [Act.put, jA, jB, jC, jD, jE, jF]))
  |(refine wpAnyH_ready (rs := [9]) (by decide +kernel) (by simp) ?_; refine AllReadyH.cons rfl (fun K hK => ?_) AllReadyH.nil; (try simp only [jA, jB, jC]); go_simp; (first | (go_at_call 184; refine (neg_six _ _ (by first | assumption | exact Six.drew (by assumption))).mono ?_; rintro e w' ⟨rfl, hs⟩; have c0 := hs.c0; have c1 := hs.c1; have c2 := hs.c2; have c3 := hs.c3; have c4 := hs.c4; have c5 := hs.c5; have f4 := hs.f4; have f5 := hs.f5) | skip); refine hK.out _ _ ?_ (fun hHeld => ?_); (focus ((try dsimp only); (first | exact Six.cells (by assumption) | exact Six.cells (Six.drew (by assumption)) | exact Six.cells (Six.store (by assumption))); done)); clear hK K; (try simp only [Act.put, jA, jB, jC, jD, jE, jF]))
  |(refine wpAnyH_ready (rs := [10]) (by decide +kernel) (by simp) ?_; refine AllReadyH.cons rfl (fun K hK => ?_) AllReadyH.nil; (try simp only [jA, jB, jC]); go_simp; (first | (go_at_call 184; refine (neg_six _ _ (by first | assumption | exact Six.drew (by assumption))).mono ?_; rintro e w' ⟨rfl, hs⟩; have c0 := hs.c0; have c1 := hs.c1; have c2 := hs.c2; have c3 := hs.c3; have c4 := hs.c4; have c5 := hs.c5; have f4 := hs.f4; have f5 := hs.f5) | skip); refine hK.out _ _ ?_ (fun hHeld => ?_); (focus ((try dsimp only); (first | exact Six.cells (by assumption) | exact Six.cells (Six.drew (by assumption)) | exact Six.cells (Six.store (by assumption))); done)); clear hK K; (try simp only [Act.put, jA, jB, jC, jD, jE, jF]))
  |(refine wpAnyH_ready (rs := [11]) (by decide +kernel) (by simp) ?_; refine AllReadyH.cons rfl (fun K hK => ?_) AllReadyH.nil; (try simp only [jA, jB, jC]); go_simp; (first | (go_at_call 184; refine (neg_six _ _ (by first | assumption | exact Six.drew (by assumption))).mono ?_; rintro e w' ⟨rfl, hs⟩; have c0 := hs.c0; have c1 := hs.c1; have c2 := hs.c2; have c3 := hs.c3; have c4 := hs.c4; have c5 := hs.c5; have f4 := hs.f4; have f5 := hs.f5) | skip); refine hK.out _ _ ?_ (fun hHeld => ?_); (focus ((try dsimp only); (first | exact Six.cells (by assumption) | exact Six.cells (Six.drew (by assumption)) | exact Six.cells (Six.store (by assumption))); done)); clear hK K; (try simp only [Act.put, jA, jB, jC, jD, jE, jF]))
  |(refine wpAnyH_ready (rs := [12]) (by decide +kernel) (by simp) ?_; refine AllReadyH.cons rfl (fun K hK => ?_) AllReadyH.nil; (try simp only [jA, jB, jC]); go_simp; (first | (go_at_call 184; refine (neg_six _ _ (by first | assumption | exact Six.drew (by assumption))).mono ?_; rintro e w' ⟨rfl, hs⟩; have c0 := hs.c0; have c1 := hs.c1; have c2 := hs.c2; have c3 := hs.c3; have c4 := hs.c4; have c5 := hs.c5; have f4 := hs.f4; have f5 := hs.f5) | skip); refine hK.out _ _ ?_ (fun hHeld => ?_); (focus ((try dsimp only); (first | exact Six.cells (by assumption) | exact Six.cells (Six.drew (by assumption)) | exact Six.cells (Six.store (by assumption))); done)); clear hK K; (try simp only [Act.put, jA, jB, jC, jD, jE, jF]))
  |(refine wpAnyH_ready (rs := [13]) (by decide +kernel) (by simp) ?_; refine AllReadyH.cons rfl (fun K hK => ?_) AllReadyH.nil; (try simp only [jA, jB, jC]); go_simp; (first | (go_at_call 184; refine (neg_six _ _ (by first | assumption | exact Six.drew (by assumption))).mono ?_; rintro e w' ⟨rfl, hs⟩; have c0 := hs.c0; have c1 := hs.c1; have c2 := hs.c2; have c3 := hs.c3; have c4 := hs.c4; have c5 := hs.c5; have f4 := hs.f4; have f5 := hs.f5) | skip); refine hK.out _ _ ?_ (fun hHeld => ?_); (focus ((try dsimp only); (first | exact Six.cells (by assumption) | exact Six.cells (Six.drew (by assumption)) | exact Six.cells (Six.store (by assumption))); done)); clear hK K; (try simp only [Act.put, jA, jB, jC, jD, jE, jF]))
  |(refine wpAnyH_ready (rs := [14]) (by decide +kernel) (by simp) ?_; refine AllReadyH.cons rfl (fun K hK => ?_) AllReadyH.nil; (try simp only [jA, jB, jC]); go_simp; (first | (go_at_call 184; refine (neg_six _ _ (by first | assumption | exact Six.drew (by assumption))).mono ?_; rintro e w' ⟨rfl, hs⟩; have c0 := hs.c0; have c1 := hs.c1; have c2 := hs.c2; have c3 := hs.c3; have c4 := hs.c4; have c5 := hs.c5; have f4 := hs.f4; have f5 := hs.f5) | skip); refine hK.out _ _ ?_ (fun hHeld => ?_); (focus ((try dsimp only); (first | exact Six.cells (by assumption) | exact Six.cells (Six.drew (by assumption)) | exact Six.cells (Six.store (by assumption))); done)); clear hK K; (try simp only [Act.put, jA, jB, jC, jD, jE, jF]))
  )
 go_wp2
 refine bodyPost_ret (v := .tuple #[.agg #[.int .i64 (pHi h l h' l'), .int .u64 (pLo l l')], .bool (pFit h l h' l')]) ?_ rfl ⟨rfl, ?_⟩
 ·rw [HF.out, hg]
  have hq := (Six.store hs).cells
  simp [results, Tryz.results165, go_sem, hq]
 ·exact (hs.below.setCell hs.le _).setCell hs.le _
theorem plus_any (h l h' l' : Int) (wf : Wf h l) (wf' : Wf h' l') (w : World) :
  Calls Tryz.prog 165 #[.agg #[.int .i64 h, .int .u64 l], .agg #[.int .i64 h', .int .u64 l']] w fun e w' => e = .returned (.tuple #[.agg #[.int .i64 (pHi h l h' l'), .int .u64 (pLo l l')], .bool (pFit h l h' l')]) ∧ Below w.heap.size w w' := by
 cases hg : (ng h == ng h')
 ·exact plus_apart h l h' l' wf wf' hg w
 ·exact plus_same h l h' l' wf wf' hg w

set_option maxHeartbeats 1000000 in
theorem minus_same (h l h' l' : Int) (wf : Wf h l) (wf' : Wf h' l') (hg : (ng h == ng h') = true) (w : World) :
  Calls Tryz.prog 196 #[.agg #[.int .i64 h, .int .u64 l], .agg #[.int .i64 h', .int .u64 l']] w fun e w' => e = .returned (.tuple #[.agg #[.int .i64 (mHi h l h' l'), .int .u64 (mLo l l')], .bool (mFit h l h' l')]) ∧ Below w.heap.size w w' := by
 have e1 := fun W => run_sub l l' 0 wf.2.2.1 wf'.2.2.1 wf'.2.2.2 (by omega) (by omega) W
 have e2 := fun W => run_sub (IntKind.u64.wrap h) (IntKind.u64.wrap h') (sbor l l' 0) (by rw [wrap_uw]; unfold uw; omega) (by rw [wrap_uw]; unfold uw; omega) (by rw [wrap_uw]; unfold uw; omega) (by unfold sbor; split <;> omega) (by unfold sbor; split <;> omega) W
 clear wf wf'
 have HF : Hid (mFit h l h' l' = ((ng h == ng h') || (ng h == ng (mHi h l h' l')))) := rfl
 go_enter Tryz.func196, Tryz.ntmps196
 go_wp2
 rw [wrap_sw, wrap_uw, wrap_uw, ← mHi, ← mLo]
 generalize hb1 : w.heap.size + 1 = b1
 generalize hb2 : b1 + 1 = b2
 have HS := six_of w (.int .i64 h) (.int .u64 l) (.int .i64 h') (.int .u64 l') (.int .i64 (mHi h l h' l')) (.int .u64 (mLo l l')) 215
 rw [hb1, hb2] at HS
 generalize (((w.alloc _).alloc _).alloc _) = W at HS ⊢
 clear hb1 hb2 e1 e2
 have c0 := HS.c0; have c1 := HS.c1; have c2 := HS.c2; have c3 := HS.c3; have c4 := HS.c4; have c5 := HS.c5; have f4 := HS.f4; have f5 := HS.f5
 have n0 := HS.ne0; have n1 := HS.ne1; have n0' := Ne.symm n0; have n1' := Ne.symm n1
 refine wp_region_held_drew (S := (fun w' => w'.cell? ⟨w.heap.size, 0, none⟩ = some (.int .i64 h) ∧ w'.cell? ⟨w.heap.size, 1, none⟩ = some (.int .u64 l) ∧ w'.cell? ⟨b1, 0, none⟩ = some (.int .i64 h') ∧ w'.cell? ⟨b1, 1, none⟩ = some (.int .u64 l') ∧ w'.cell? ⟨b2, 0, none⟩ = some (.int .i64 (mHi h l h' l')) ∧ w'.cell? ⟨b2, 1, none⟩ = some (.int .u64 (mLo l l')))) (by kernel_rfl) ?_ (fun hHeld => ?_)
 ·(try dsimp only)
  (first | exact Six.cells (by assumption) | exact Six.cells (Six.drew (by assumption)) | exact Six.cells (Six.store (by assumption)))
 repeat' (first
  |(refine wpAnyH_done (by decide +kernel) ?_ _)
  |(refine takeNone (i := 0) (by decide +kernel) rfl (by rfl) (by decide +kernel) (by decide +kernel) (fun _ _ _ h => h) (by assumption) ?_; (try simp only [Act.put, jA, jB, jD, jE, jF]))
  |(refine takeSome (i := 0) (v := ?_) (by decide +kernel) rfl (by rfl) (by decide +kernel) (by decide +kernel) (fun _ _ _ h => h) (by assumption) ?_ ?_; rotate_left; (focus (intro w0 hSw; (try dsimp only at hSw); go_simp; (try (with_reducible rfl)); done)); (try simp only [Act.put, jA, jB, jD, jE, jF]))
  |(refine takeNone (i := 1) (by decide +kernel) rfl (by rfl) (by decide +kernel) (by decide +kernel) (fun _ _ _ h => h) (by assumption) ?_; (try simp only [Act.put, jA, jB, jC, jD, jE, jF]))
  |(refine takeSome (i := 1) (v := ?_) (by decide +kernel) rfl (by rfl) (by decide +kernel) (by decide +kernel) (fun _ _ _ h => h) (by assumption) ?_ ?_; rotate_left; (focus (intro w0 hSw; (try dsimp only at hSw); go_simp; (try (with_reducible rfl)); done)); (try simp only [Act.put, jA, jB, jC, jD, jE, jF]))
  |(refine takeNone (i := 2) (by decide +kernel) rfl (by rfl) (by decide +kernel) (by decide +kernel) (fun _ _ _ h => h) (by assumption) ?_; (try simp only [Act.put, jA, jB, jC, jD, jE, jF]))
  |(refine takeSome (i := 2) (v := ?_) (by decide +kernel) rfl (by rfl) (by decide +kernel) (by decide +kernel) (fun _ _ _ h => h) (by assumption) ?_ ?_; rotate_left; (focus (intro w0 hSw; (try dsimp only at hSw); go_simp; (try (with_reducible rfl)); done)); (try simp only [Act.put, jA, jB, jC, jD, jE, jF]))
  |(refine takeNone (i := 3) (by decide +kernel) rfl (by rfl) (by decide +kernel) (by decide +kernel) (fun _ _ _ h => h) (by assumption) ?_; (try simp only [Act.put, jA, jB, jC, jD, jE, jF]))
  |(refine takeSome (i := 3) (v := ?_) (by decide +kernel) rfl (by rfl) (by decide +kernel) (by decide +kernel) (fun _ _ _ h => h) (by assumption) ?_ ?_; rotate_left; (focus (intro w0 hSw; (try dsimp only at hSw); go_simp; (try (with_reducible rfl)); done)); (try simp only [Act.put, jA, jB, jC, jD, jE, jF]))
  |(refine takeNone (i := 4) (by decide +kernel) rfl (by rfl) (by decide +kernel) (by decide +kernel) (fun _ _ _ h => h) (by assumption) ?_; (try simp only [Act.put, jA, jB, jC, jD, jE, jF]))
  |(refine takeSome (i := 4) (v := ?_) (by decide +kernel) rfl (by rfl) (by decide +kernel) (by decide +kernel) (fun _ _ _ h => h) (by assumption) ?_ ?_; rotate_left; (focus (intro w0 hSw; (try dsimp only at hSw); go_simp; (try (with_reducible rfl)); done)); (try simp only [Act.put, jA, jB, jC, jD, jE, jF]))
  |(refine takeNone (i := 5) (by decide +kernel) rfl (by rfl) (by decide +kernel) (by decide +kernel) (fun _ _ _ h => h) (by assumption) ?_; (try simp only [Act.put, jA, jB, jC, jD, jE, jF]))
  |(refine takeSome (i := 5) (v := ?_) (by decide +kernel) rfl (by rfl) (by decide +kernel) (by decide +kernel) (fun _ _ _ h => h) (by assumption) ?_ ?_; rotate_left; (focus (intro w0 hSw; (try dsimp only at hSw); go_simp; (try (with_reducible rfl)); done)); (try simp only [Act.put, jA, jB, jC, jD, jE, jF]))
  |(refine takeNone (i := 6) (by decide +kernel) rfl (by rfl) (by decide +kernel) (by decide +kernel) (fun _ _ _ h => h) (by assumption) ?_; (try simp only [Act.put, jA, jB, jC, jD, jE, jF]))
  |(refine takeSome (i := 6) (v := ?_) (by decide +kernel) rfl (by rfl) (by decide +kernel) (by decide +kernel) (fun _ _ _ h => h) (by assumption) ?_ ?_; rotate_left; (focus (intro w0 hSw; (try dsimp only at hSw); go_simp; (try (with_reducible rfl)); done)); (try simp only [Act.put, jA, jB, jC, jD, jE, jF]))
  |(refine takeNone (i := 7) (by decide +kernel) rfl (by rfl) (by decide +kernel) (by decide +kernel) (fun _ _ _ h => h) (by assumption) ?_; (try simp only [Act.put, jA, jB, jC, jD, jE, jF]))
  |(refine takeSome (i := 7) (v := ?_) (by decide +kernel) rfl (by rfl) (by decide +kernel) (by decide +kernel) (fun _ _ _ h => h) (by assumption) ?_ ?_; rotate_left; (focus (intro w0 hSw; (try dsimp only at hSw); go_simp; (try (with_reducible rfl)); done)); (try simp only [Act.put, jA, jB, jC, jD, jE, jF]))
  |(refine takeNone (i := 8) (by decide +kernel) rfl (by rfl) (by decide +kernel) (by decide +kernel) (fun _ _ _ h => h) (by assumption) ?_; (try simp only [Act.put, jA, jB, jC, jD, jE, jF]))
  |(refine takeSome (i := 8) (v := ?_) (by decide +kernel) rfl (by rfl) (by decide +kernel) (by decide +kernel) (fun _ _ _ h => h) (by assumption) ?_ ?_; rotate_left; (focus (intro w0 hSw; (try dsimp only at hSw); go_simp; (try (with_reducible rfl)); done)); (try simp only [Act.put, jA, jB, jC, jD, jE, jF]))
  |(refine takeNone (i := 9) (by decide +kernel) rfl (by rfl) (by decide +kernel) (by decide +kernel) (fun _ _ _ h => h) (by assumption) ?_; (try simp only [Act.put, jA, jB, jC, jD, jE, jF]))
  |(refine takeSome (i := 9) (v := ?_) (by decide +kernel) rfl (by rfl) (by decide +kernel) (by decide +kernel) (fun _ _ _ h => h) (by assumption) ?_ ?_; rotate_left; (focus (intro w0 hSw; (try dsimp only at hSw); go_simp; (try (with_reducible rfl)); done)); (try simp only [Act.put, jA, jB, jC, jD, jE, jF]))
  |(refine takeNone (i := 10) (by decide +kernel) rfl (by rfl) (by decide +kernel) (by decide +kernel) (fun _ _ _ h => h) (by assumption) ?_; (try simp only [Act.put, jA, jB, jC, jD, jE, jF]))
  |(refine takeSome (i := 10) (v := ?_) (by decide +kernel) rfl (by rfl) (by decide +kernel) (by decide +kernel) (fun _ _ _ h => h) (by assumption) ?_ ?_; rotate_left; (focus (intro w0 hSw; (try dsimp only at hSw); go_simp; (try (with_reducible rfl)); done)); (try simp only [Act.put, jA, jB, jC, jD, jE, jF]))
  |(refine takeNone (i := 11) (by decide +kernel) rfl (by rfl) (by decide +kernel) (by decide +kernel) (fun _ _ _ h => h) (by assumption) ?_; (try simp only [Act.put, jA, jB, jC, jD, jE, jF]))
  |(refine takeSome (i := 11) (v := ?_) (by decide +kernel) rfl (by rfl) (by decide +kernel) (by decide +kernel) (fun _ _ _ h => h) (by assumption) ?_ ?_; rotate_left; (focus (intro w0 hSw; (try dsimp only at hSw); go_simp; (try (with_reducible rfl)); done)); (try simp only [Act.put, jA, jB, jC, jD, jE, jF]))
  |(refine takeNone (i := 12) (by decide +kernel) rfl (by rfl) (by decide +kernel) (by decide +kernel) (fun _ _ _ h => h) (by assumption) ?_; (try simp only [Act.put, jA, jB, jC, jD, jE, jF]))
  |(refine takeSome (i := 12) (v := ?_) (by decide +kernel) rfl (by rfl) (by decide +kernel) (by decide +kernel) (fun _ _ _ h => h) (by assumption) ?_ ?_; rotate_left; (focus (intro w0 hSw; (try dsimp only at hSw); go_simp; (try (with_reducible rfl)); done)); (try simp only [Act.put, jA, jB, jC, jD, jE, jF]))
  |(refine takeNone (i := 13) (by decide +kernel) rfl (by rfl) (by decide +kernel) (by decide +kernel) (fun _ _ _ h => h) (by assumption) ?_; (try simp only [Act.put, jA, jB, jC, jD, jE, jF]))
  |(refine takeSome (i := 13) (v := ?_) (by decide +kernel) rfl (by rfl) (by decide +kernel) (by decide +kernel) (fun _ _ _ h => h) (by assumption) ?_ ?_; rotate_left; (focus (intro w0 hSw; (try dsimp only at hSw); go_simp; (try (with_reducible rfl)); done)); (try simp only [Act.put, jA, jB, jC, jD, jE, jF]))
  |(refine takeNone (i := 14) (by decide +kernel) rfl (by rfl) (by decide +kernel) (by decide +kernel) (fun _ _ _ h => h) (by assumption) ?_; (try simp only [Act.put, jA, jB, jC, jD, jE, jF]))
  |(refine takeSome (i := 14) (v := ?_) (by decide +kernel) rfl (by rfl) (by decide +kernel) (by decide +kernel) (fun _ _ _ h => h) (by assumption) ?_ ?_; rotate_left; (focus (intro w0 hSw; (try dsimp only at hSw); go_simp; (try (with_reducible rfl)); done)); (try simp only [Act.put, jA, jB, jC, jD, jE, jF]))
  |(refine wpAnyH_ready (rs := [0]) (by decide +kernel) (by simp) ?_; refine AllReadyH.cons rfl (fun K hK => ?_) AllReadyH.nil; (try simp only [jA, jB, jC]); go_simp; (first | (go_at_call 184; refine (neg_six _ _ (by first | assumption | exact Six.drew (by assumption))).mono ?_; rintro e w' ⟨rfl, hs⟩; have c0 := hs.c0; have c1 := hs.c1; have c2 := hs.c2; have c3 := hs.c3; have c4 := hs.c4; have c5 := hs.c5; have f4 := hs.f4; have f5 := hs.f5) | skip); refine hK.out _ _ ?_ (fun hHeld => ?_); (focus ((try dsimp only); (first | exact Six.cells (by assumption) | exact Six.cells (Six.drew (by assumption)) | exact Six.cells (Six.store (by assumption))); done)); clear hK K; (try simp only [Act.put, jA, jB, jC, jD, jE, jF]))
  |(refine wpAnyH_ready (rs := [1]) (by decide +kernel) (by simp) ?_; refine AllReadyH.cons rfl (fun K hK => ?_) AllReadyH.nil; (try simp only [jA, jB, jC]); go_simp; (first | (go_at_call 184; refine (neg_six _ _ (by first | assumption | exact Six.drew (by assumption))).mono ?_; rintro e w' ⟨rfl, hs⟩; have c0 := hs.c0; have c1 := hs.c1; have c2 := hs.c2; have c3 := hs.c3; have c4 := hs.c4; have c5 := hs.c5; have f4 := hs.f4; have f5 := hs.f5) | skip); refine hK.out _ _ ?_ (fun hHeld => ?_); (focus ((try dsimp only); (first | exact Six.cells (by assumption) | exact Six.cells (Six.drew (by assumption)) | exact Six.cells (Six.store (by assumption))); done)); clear hK K; (try simp only [Act.put, jA, jB, jC, jD, jE, jF]))
  |(refine wpAnyH_ready (rs := [2]) (by decide +kernel) (by simp) ?_; refine AllReadyH.cons rfl (fun K hK => ?_) AllReadyH.nil; (try simp only [jA, jB, jC]); go_simp; (first | (go_at_call 184; refine (neg_six _ _ (by first | assumption | exact Six.drew (by assumption))).mono ?_; rintro e w' ⟨rfl, hs⟩; have c0 := hs.c0; have c1 := hs.c1; have c2 := hs.c2; have c3 := hs.c3; have c4 := hs.c4; have c5 := hs.c5; have f4 := hs.f4; have f5 := hs.f5) | skip); refine hK.out _ _ ?_ (fun hHeld => ?_); (focus ((try dsimp only); (first | exact Six.cells (by assumption) | exact Six.cells (Six.drew (by assumption)) | exact Six.cells (Six.store (by assumption))); done)); clear hK K; (try simp only [Act.put, jA, jB, jC, jD, jE, jF]))
  |(refine wpAnyH_ready (rs := [3]) (by decide +kernel) (by simp) ?_; refine AllReadyH.cons rfl (fun K hK => ?_) AllReadyH.nil; (try simp only [jA, jB, jC]); go_simp; (first | (go_at_call 184; refine (neg_six _ _ (by first | assumption | exact Six.drew (by assumption))).mono ?_; rintro e w' ⟨rfl, hs⟩; have c0 := hs.c0; have c1 := hs.c1; have c2 := hs.c2; have c3 := hs.c3; have c4 := hs.c4; have c5 := hs.c5; have f4 := hs.f4; have f5 := hs.f5) | skip); refine hK.out _ _ ?_ (fun hHeld => ?_); (focus ((try dsimp only); (first | exact Six.cells (by assumption) | exact Six.cells (Six.drew (by assumption)) | exact Six.cells (Six.store (by assumption))); done)); clear hK K; (try simp only [Act.put, jA, jB, jC, jD, jE, jF]))
  |(refine wpAnyH_ready (rs := [4]) (by decide +kernel) (by simp) ?_; refine AllReadyH.cons rfl (fun K hK => ?_) AllReadyH.nil; (try simp only [jA, jB, jC]); go_simp; (first | (go_at_call 184; refine (neg_six _ _ (by first | assumption | exact Six.drew (by assumption))).mono ?_; rintro e w' ⟨rfl, hs⟩; have c0 := hs.c0; have c1 := hs.c1; have c2 := hs.c2; have c3 := hs.c3; have c4 := hs.c4; have c5 := hs.c5; have f4 := hs.f4; have f5 := hs.f5) | skip); refine hK.out _ _ ?_ (fun hHeld => ?_); (focus ((try dsimp only); (first | exact Six.cells (by assumption) | exact Six.cells (Six.drew (by assumption)) | exact Six.cells (Six.store (by assumption))); done)); clear hK K; (try simp only [Act.put, jA, jB, jC, jD, jE, jF]))
  |(refine wpAnyH_ready (rs := [5]) (by decide +kernel) (by simp) ?_; refine AllReadyH.cons rfl (fun K hK => ?_) AllReadyH.nil; (try simp only [jA, jB, jC]); go_simp; (first | (go_at_call 184; refine (neg_six _ _ (by first | assumption | exact Six.drew (by assumption))).mono ?_; rintro e w' ⟨rfl, hs⟩; have c0 := hs.c0; have c1 := hs.c1; have c2 := hs.c2; have c3 := hs.c3; have c4 := hs.c4; have c5 := hs.c5; have f4 := hs.f4; have f5 := hs.f5) | skip); refine hK.out _ _ ?_ (fun hHeld => ?_); (focus ((try dsimp only); (first | exact Six.cells (by assumption) | exact Six.cells (Six.drew (by assumption)) | exact Six.cells (Six.store (by assumption))); done)); clear hK K; (try simp only [Act.put, jA, jB, jC, jD, jE, jF]))
  |(refine wpAnyH_ready (rs := [6]) (by decide +kernel) (by simp) ?_; refine AllReadyH.cons rfl (fun K hK => ?_) AllReadyH.nil; (try simp only [jA, jB, jC]); go_simp; (first | (go_at_call 184; refine (neg_six _ _ (by first | assumption | exact Six.drew (by assumption))).mono ?_; rintro e w' ⟨rfl, hs⟩; have c0 := hs.c0; have c1 := hs.c1; have c2 := hs.c2; have c3 := hs.c3; have c4 := hs.c4; have c5 := hs.c5; have f4 := hs.f4; have f5 := hs.f5) | skip); refine hK.out _ _ ?_ (fun hHeld => ?_); (focus ((try dsimp only); (first | exact Six.cells (by assumption) | exact Six.cells (Six.drew (by assumption)) | exact Six.cells (Six.store (by assumption))); done)); clear hK K; (try simp only [Act.put, jA, jB, jC, jD, jE, jF]))
  |(refine wpAnyH_ready (rs := [7]) (by decide +kernel) (by simp) ?_; refine AllReadyH.cons rfl (fun K hK => ?_) AllReadyH.nil; (try simp only [jA, jB, jC]); go_simp; (first | (go_at_call 184; refine (neg_six _ _ (by first | assumption | exact Six.drew (by assumption))).mono ?_; rintro e w' ⟨rfl, hs⟩; have c0 := hs.c0; have c1 := hs.c1; have c2 := hs.c2; have c3 := hs.c3; have c4 := hs.c4; have c5 := hs.c5; have f4 := hs.f4; have f5 := hs.f5) | skip); refine hK.out _ _ ?_ (fun hHeld => ?_); (focus ((try dsimp only); (first | exact Six.cells (by assumption) | exact Six.cells (Six.drew (by assumption)) | exact Six.cells (Six.store (by assumption))); done)); clear hK K; (try simp only [Act.put, jA, jB, jC, jD, jE, jF]))
  |(refine wpAnyH_ready (rs := [8]) (by decide +kernel) (by simp) ?_; refine AllReadyH.cons rfl (fun K hK => ?_) AllReadyH.nil; (try simp only [jA, jB, jC]); go_simp; (first | (go_at_call 184; refine (neg_six _ _ (by first | assumption | exact Six.drew (by assumption))).mono ?_; rintro e w' ⟨rfl, hs⟩; have c0 := hs.c0; have c1 := hs.c1; have c2 := hs.c2; have c3 := hs.c3; have c4 := hs.c4; have c5 := hs.c5; have f4 := hs.f4; have f5 := hs.f5) | skip); refine hK.out _ _ ?_ (fun hHeld => ?_); (focus ((try dsimp only); (first | exact Six.cells (by assumption) | exact Six.cells (Six.drew (by assumption)) | exact Six.cells (Six.store (by assumption))); done)); clear hK K; (try simp only [Act.put, jA, jB, jC, jD, jE, jF]))
  |(refine wpAnyH_ready (rs := [9]) (by decide +kernel) (by simp) ?_; refine AllReadyH.cons rfl (fun K hK => ?_) AllReadyH.nil; (try simp only [jA, jB, jC]); go_simp; (first | (go_at_call 184; refine (neg_six _ _ (by first | assumption | exact Six.drew (by assumption))).mono ?_; rintro e w' ⟨rfl, hs⟩; have c0 := hs.c0; have c1 := hs.c1; have c2 := hs.c2; have c3 := hs.c3; have c4 := hs.c4; have c5 := hs.c5; have f4 := hs.f4; have f5 := hs.f5) | skip); refine hK.out _ _ ?_ (fun hHeld => ?_); (focus ((try dsimp only); (first | exact Six.cells (by assumption) | exact Six.cells (Six.drew (by assumption)) | exact Six.cells (Six.store (by assumption))); done)); clear hK K; (try simp only [Act.put, jA, jB, jC, jD, jE, jF]))
  |(refine wpAnyH_ready (rs := [10]) (by decide +kernel) (by simp) ?_; refine AllReadyH.cons rfl (fun K hK => ?_) AllReadyH.nil; (try simp only [jA, jB, jC]); go_simp; (first | (go_at_call 184; refine (neg_six _ _ (by first | assumption | exact Six.drew (by assumption))).mono ?_; rintro e w' ⟨rfl, hs⟩; have c0 := hs.c0; have c1 := hs.c1; have c2 := hs.c2; have c3 := hs.c3; have c4 := hs.c4; have c5 := hs.c5; have f4 := hs.f4; have f5 := hs.f5) | skip); refine hK.out _ _ ?_ (fun hHeld => ?_); (focus ((try dsimp only); (first | exact Six.cells (by assumption) | exact Six.cells (Six.drew (by assumption)) | exact Six.cells (Six.store (by assumption))); done)); clear hK K; (try simp only [Act.put, jA, jB, jC, jD, jE, jF]))
  |(refine wpAnyH_ready (rs := [11]) (by decide +kernel) (by simp) ?_; refine AllReadyH.cons rfl (fun K hK => ?_) AllReadyH.nil; (try simp only [jA, jB, jC]); go_simp; (first | (go_at_call 184; refine (neg_six _ _ (by first | assumption | exact Six.drew (by assumption))).mono ?_; rintro e w' ⟨rfl, hs⟩; have c0 := hs.c0; have c1 := hs.c1; have c2 := hs.c2; have c3 := hs.c3; have c4 := hs.c4; have c5 := hs.c5; have f4 := hs.f4; have f5 := hs.f5) | skip); refine hK.out _ _ ?_ (fun hHeld => ?_); (focus ((try dsimp only); (first | exact Six.cells (by assumption) | exact Six.cells (Six.drew (by assumption)) | exact Six.cells (Six.store (by assumption))); done)); clear hK K; (try simp only [Act.put, jA, jB, jC, jD, jE, jF]))
  |(refine wpAnyH_ready (rs := [12]) (by decide +kernel) (by simp) ?_; refine AllReadyH.cons rfl (fun K hK => ?_) AllReadyH.nil; (try simp only [jA, jB, jC]); go_simp; (first | (go_at_call 184; refine (neg_six _ _ (by first | assumption | exact Six.drew (by assumption))).mono ?_; rintro e w' ⟨rfl, hs⟩; have c0 := hs.c0; have c1 := hs.c1; have c2 := hs.c2; have c3 := hs.c3; have c4 := hs.c4; have c5 := hs.c5; have f4 := hs.f4; have f5 := hs.f5) | skip); refine hK.out _ _ ?_ (fun hHeld => ?_); (focus ((try dsimp only); (first | exact Six.cells (by assumption) | exact Six.cells (Six.drew (by assumption)) | exact Six.cells (Six.store (by assumption))); done)); clear hK K; (try simp only [Act.put, jA, jB, jC, jD, jE, jF]))
  |(refine wpAnyH_ready (rs := [13]) (by decide +kernel) (by simp) ?_; refine AllReadyH.cons rfl (fun K hK => ?_) AllReadyH.nil; (try simp only [jA, jB, jC]); go_simp; (first | (go_at_call 184; refine (neg_six _ _ (by first | assumption | exact Six.drew (by assumption))).mono ?_; rintro e w' ⟨rfl, hs⟩; have c0 := hs.c0; have c1 := hs.c1; have c2 := hs.c2; have c3 := hs.c3; have c4 := hs.c4; have c5 := hs.c5; have f4 := hs.f4; have f5 := hs.f5) | skip); refine hK.out _ _ ?_ (fun hHeld => ?_); (focus ((try dsimp only); (first | exact Six.cells (by assumption) | exact Six.cells (Six.drew (by assumption)) | exact Six.cells (Six.store (by assumption))); done)); clear hK K; (try simp only [Act.put, jA, jB, jC, jD, jE, jF]))
  |(refine wpAnyH_ready (rs := [14]) (by decide +kernel) (by simp) ?_; refine AllReadyH.cons rfl (fun K hK => ?_) AllReadyH.nil; (try simp only [jA, jB, jC]); go_simp; (first | (go_at_call 184; refine (neg_six _ _ (by first | assumption | exact Six.drew (by assumption))).mono ?_; rintro e w' ⟨rfl, hs⟩; have c0 := hs.c0; have c1 := hs.c1; have c2 := hs.c2; have c3 := hs.c3; have c4 := hs.c4; have c5 := hs.c5; have f4 := hs.f4; have f5 := hs.f5) | skip); refine hK.out _ _ ?_ (fun hHeld => ?_); (focus ((try dsimp only); (first | exact Six.cells (by assumption) | exact Six.cells (Six.drew (by assumption)) | exact Six.cells (Six.store (by assumption))); done)); clear hK K; (try simp only [Act.put, jA, jB, jC, jD, jE, jF]))
  )
 go_wp2
 refine bodyPost_ret (v := .tuple #[.agg #[.int .i64 (mHi h l h' l'), .int .u64 (mLo l l')], .bool (mFit h l h' l')]) ?_ rfl ⟨rfl, ?_⟩
 ·rw [HF.out, hg]
  have hq := (Six.store hs).cells
  simp [results, Tryz.results196, go_sem, hq]
 ·exact (hs.below.setCell hs.le _).setCell hs.le _
set_option maxHeartbeats 1000000 in
theorem minus_apart (h l h' l' : Int) (wf : Wf h l) (wf' : Wf h' l') (hg : (ng h == ng h') = false) (w : World) :
  Calls Tryz.prog 196 #[.agg #[.int .i64 h, .int .u64 l], .agg #[.int .i64 h', .int .u64 l']] w fun e w' => e = .returned (.tuple #[.agg #[.int .i64 (mHi h l h' l'), .int .u64 (mLo l l')], .bool (mFit h l h' l')]) ∧ Below w.heap.size w w' := by
 have e1 := fun W => run_sub l l' 0 wf.2.2.1 wf'.2.2.1 wf'.2.2.2 (by omega) (by omega) W
 have e2 := fun W => run_sub (IntKind.u64.wrap h) (IntKind.u64.wrap h') (sbor l l' 0) (by rw [wrap_uw]; unfold uw; omega) (by rw [wrap_uw]; unfold uw; omega) (by rw [wrap_uw]; unfold uw; omega) (by unfold sbor; split <;> omega) (by unfold sbor; split <;> omega) W
 clear wf wf'
 have HF : Hid (mFit h l h' l' = ((ng h == ng h') || (ng h == ng (mHi h l h' l')))) := rfl
 go_enter Tryz.func196, Tryz.ntmps196
 go_wp2
 rw [wrap_sw, wrap_uw, wrap_uw, ← mHi, ← mLo]
 generalize hb1 : w.heap.size + 1 = b1
 generalize hb2 : b1 + 1 = b2
 have HS := six_of w (.int .i64 h) (.int .u64 l) (.int .i64 h') (.int .u64 l') (.int .i64 (mHi h l h' l')) (.int .u64 (mLo l l')) 215
 rw [hb1, hb2] at HS
 generalize (((w.alloc _).alloc _).alloc _) = W at HS ⊢
 clear hb1 hb2 e1 e2
 have c0 := HS.c0; have c1 := HS.c1; have c2 := HS.c2; have c3 := HS.c3; have c4 := HS.c4; have c5 := HS.c5; have f4 := HS.f4; have f5 := HS.f5
 have n0 := HS.ne0; have n1 := HS.ne1; have n0' := Ne.symm n0; have n1' := Ne.symm n1
 go_region_held3 (fun w' => w'.cell? ⟨w.heap.size, 0, none⟩ = some (.int .i64 h) ∧ w'.cell? ⟨w.heap.size, 1, none⟩ = some (.int .u64 l) ∧ w'.cell? ⟨b1, 0, none⟩ = some (.int .i64 h') ∧ w'.cell? ⟨b1, 1, none⟩ = some (.int .u64 l') ∧ w'.cell? ⟨b2, 0, none⟩ = some (.int .i64 (mHi h l h' l')) ∧ w'.cell? ⟨b2, 1, none⟩ = some (.int .u64 (mLo l l'))) ((first | exact Six.cells (by assumption) | exact Six.cells (Six.drew (by assumption)) | exact Six.cells (Six.store (by assumption)))) (first | (go_at_call 184; refine (neg_six _ _ (by first | assumption | exact Six.drew (by assumption))).mono ?_; rintro e w' ⟨rfl, hs⟩; have c0 := hs.c0; have c1 := hs.c1; have c2 := hs.c2; have c3 := hs.c3; have c4 := hs.c4; have c5 := hs.c5; have f4 := hs.f4; have f5 := hs.f5))
 go_wp2
 refine bodyPost_ret (v := .tuple #[.agg #[.int .i64 (mHi h l h' l'), .int .u64 (mLo l l')], .bool (mFit h l h' l')]) ?_ rfl ⟨rfl, ?_⟩
 ·rw [HF.out, hg]
  have hq := (Six.store hs).cells
  simp [results, Tryz.results196, go_sem, hq]
 ·exact (hs.below.setCell hs.le _).setCell hs.le _
theorem minus_any (h l h' l' : Int) (wf : Wf h l) (wf' : Wf h' l') (w : World) :
  Calls Tryz.prog 196 #[.agg #[.int .i64 h, .int .u64 l], .agg #[.int .i64 h', .int .u64 l']] w fun e w' => e = .returned (.tuple #[.agg #[.int .i64 (mHi h l h' l'), .int .u64 (mLo l l')], .bool (mFit h l h' l')]) ∧ Below w.heap.size w w' := by
 cases hg : (ng h == ng h')
 ·exact minus_apart h l h' l' wf wf' hg w
 ·exact minus_same h l h' l' wf wf' hg w

end Go.Proofs.YtjlnjjmomohpaaaGreat
