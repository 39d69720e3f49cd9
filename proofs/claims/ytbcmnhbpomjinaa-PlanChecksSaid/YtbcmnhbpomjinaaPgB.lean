/- The program's edgesOf: the edges of a ring, in a slice of the call's own. -/
import Derived.Test.YtbcmnhbpomjinaaPgA
namespace Go.Proofs.Ytbcmnhbpomjinaa
open Go.RowKit
section
variable {w W W' : World} {L : List (Nat × Array Value × TypeId)}
/-- Own blocks, behind a step that turned one other block at most. -/
theorem Hold.grow {row : Option Nat} (h : Hold w L W) (hB : Below w.heap.size w W') (hg : W.grownBy W' row) (hne : ∀ e ∈ L, row ≠ some e.1) : Hold w L W' :=
  ⟨hB, fun e he => ⟨(hg.block _ (blk_lt (h.2.1 e he).1) (fun e' => hne e he e'.symm)).trans (h.2.1 e he).1, (h.2.1 e he).2⟩, h.2.2⟩
end
section
variable {α : Type} {T : TypeId} {enc : α → List Value} {n bytes : Nat} {w0 W : World} {v : Value} {l : List α}
/-- As 'step_append_items', with what turns. -/
theorem step_append_itemsG (K : Kind T enc n bytes) {TS : TypeId} (hT : Try.prog.underlying TS = some (.slice T)) (HR : RowI w0 T n enc v l W)
    (qs : List α) (A : Option Addr) (c : Nat) (hq : Items W W.heap.size A enc qs) (hnil : NilOk A c) (hn : l.length + qs.length ≤ maxLen) (hb : (l.length + qs.length) * bytes ≤ 140737488355328)
    {ops : Array Oper} {o : Oper} {a : Act} {KK : Act → World → Prop} {Q : Exit → Act → World → Prop} {E : Prop} (hgd : o.guard = none) (s y : Operand)
    (ho : o.op = .call { callee := .builtin .append, args := #[s, y], argTypes := #[TS, TS] })
    (hs : a.eval s = v) (hx : a.eval y = .slice A qs.length c)
    (h : ∀ v' w', RowI w0 T n enc v' (l ++ qs) w' → W.grownBy w' v.ownBlock → KK (a.put o.dst v') w') :
    if Region.wanted o (yielded ops a.tmps) = true then Oper.wp Try.prog o a W KK Q else E := by
  have hw : Region.wanted o (yielded ops a.tmps) = true := by simp [Region.wanted, hgd]
  rw [if_pos hw]
  obtain ⟨i0, z, hi, hz0, hz1, hz2, hz3⟩ := K.info
  cases A with
  | none =>
    obtain rfl : qs = [] := by
      cases qs with
      | nil => rfl
      | cons p q => obtain ⟨_, e, _⟩ := hq (by simp); cases e
    obtain rfl := hnil rfl
    have hrun := run_append_owned_none (P := Try.prog) (w := W) w0.heap.size TS o.type T i0 n hT hi v l.length (l.flatMap enc) HR.2
    have h' := h v W (by rw [List.append_nil]; exact HR) (World.grownBy.refl _ _)
    unfold Oper.wp
    have hx' : a.eval y = .slice none 0 0 := hx
    simp [execOp, ho, resolve, invoke, builtin, hs, hx', hrun, Result.andThen]
    exact h'
  | some ad =>
    refine wp_append_own W s y TS ho w0.heap.size T i0 z n bytes hT hi hz0 hz1 hz2 hz3 K.pos v l.length (l.flatMap enc) hs HR.2 ad qs.length c (qs.flatMap enc) hx (flat_len K.len qs) ?_ (flat_one K.one qs) hn hb HR.1.size ?_
    · intro j u hu
      obtain ⟨ad', e, -, hc⟩ := hq (fun e => by subst e; simp at hu)
      obtain rfl := Option.some.inj e
      exact hc j u hu
    · intro v' w' hown hgrow _
      refine h v' w' ⟨grownB HR.1 (Nat.le_refl _) hgrow (fun k hk => (HR.2.lt k hk).1), ?_⟩ hgrow
      rw [List.length_append, List.flatMap_append]
      exact hown
theorem RowI.row_ne (h : RowI w0 T n enc v l W) {g : Nat} (hg : W.heap.size ≤ g) : v.ownBlock ≠ some g := fun e => by
  have := (h.2.lt g e).2
  omega
end
set_option maxRecDepth 100000 in
set_option maxHeartbeats 2000000 in
theorem edges_any (ps : List (Int × Int)) (A : Option Addr) (cap : Nat) (hn : ps.length ≤ 1000000) (w : World) (hr : Pts w w.heap.size A ps) :
    Calls Try.prog 57 #[.slice A ps.length cap] w fun e w' => ∃ v, e = .returned v ∧ RowI w 60 4 encG v (edg ps) w' := by
  have HR := Lib.hid hr
  have HR0 : RowI w 60 4 encG (.slice none 0 0) [] w := RowI.nil (Below.refl _ _)
  clear hr
  go_enter Try.func57, Try.ntmps57
  go_wp2_with fail
  go_loopg [3, 8] ps.length (fun g v i wr => ∃ k : Nat, k ≤ ps.length ∧ g = ps.length - k ∧ i = .int .i64 k ∧ RowI w 60 4 encG v ((edg ps).take k) wr)
  case atStart => exact ⟨0, Nat.zero_le _, rfl, rfl, by rw [List.take_zero]; exact HR0⟩
  case round =>
    clear HR0
    obtain ⟨k, hk, hgk, rfl, HV⟩ := hrel
    have HGK := Lib.hid hgk
    clear hgk
    by_cases hlt : k < ps.length
    · obtain ⟨jk, hjk, ek1, ek2, ek3⟩ := next_place hlt
      obtain ⟨ad, hA, F0⟩ := HR.out.fp hlt (Nat.mod_eq_of_lt hlt)
      obtain ⟨ad', e', F1⟩ := HR.out.fp hjk ek1
      obtain rfl := Option.some.inj (hA.symm.trans e')
      obtain rfl := hA
      have HT := Lib.hid (edg_take hlt)
      have hlen : ((edg ps).take k).length ≤ 1000000 := by have := List.length_take_le k (edg ps); omega
      have HLN := Lib.hid hlen
      have b0 : (0 : Int) ≤ (k : Int) := by omega
      have b1 : (k : Int) < (ps.length : Int) := by omega
      have b2 : (0 : Int) < (ps.length : Int) := by omega
      have b4 : (0 : Int) ≤ (jk : Int) := by omega
      have b5 : (jk : Int) < (ps.length : Int) := by omega
      have b6 : (ps.length : Int) ≤ 1000000 := by omega
      have hh : Hold w [] wr := ⟨HV.1, fun _ h => (by cases h), List.Pairwise.nil⟩
      obtain ⟨d0, d1⟩ := hh.fp F0
      have HF1 := Lib.hid F1
      have HH := Lib.hid hh
      clear F0 F1 e' ek1 hlen hh
      generalize nx ps k = a at *
      generalize nx ps (k + 1) = b at *
      generalize (edg ps).take k = es at *
      go_upto_region 5 with (fail)
      clear d0 d1
      have HQ := HH.out.new #[.int .i64 a.1, .int .i64 a.2] 43
      have HV1 := HV.alloc (Obj.cells #[.int .i64 a.1, .int .i64 a.2] 43 (0, 0))
      have HN1 := HV.row_ne (Nat.le_refl _)
      generalize (World.alloc _ _) = W1 at HQ HV1 ⊢
      generalize wr.heap.size = gb at HQ HN1 ⊢
      have HN := Lib.hid HN1
      clear HN1 HV HH
      have z1 : ((ps.length : Int) == 0) = false := by rw [beq_eq_false_iff_ne]; omega
      have z2 : ¬ (ps.length : Int) = 0 := by omega
      have z7 : ¬ ps.length = 0 := by omega
      have z8 : ¬ ps = [] := fun e => z7 (by rw [e]; rfl)
      have z3 := wrap_in (n := (k : Int) + 1) (by omega) (by omega)
      have z4 := wrap_in (n := (k : Int)) (by omega) (by omega)
      have z5 := wrap_in (n := (jk : Int)) (by omega) (by omega)
      have HK2 := Lib.hid (fun W (h : Hold w [(gb, #[.int .i64 a.1, .int .i64 a.2], 43)] W) => show W.cell? ⟨gb, 0, none⟩ = some (.int .i64 a.1) ∧ W.cell? ⟨gb, 1, none⟩ = some (.int .i64 a.2) ∧ W.cell? (ad.add (jk * 2)) = some (.int .i64 b.1) ∧ W.cell? ⟨(ad.add (jk * 2)).block, (ad.add (jk * 2)).off + 1, none⟩ = some (.int .i64 b.2) from
        ⟨(h.pt (.head _)).1, (h.pt (.head _)).2, (h.fp HF1.out).1, (h.fp HF1.out).2⟩)
      go_region_held3 (fun W => W.cell? ⟨gb, 0, none⟩ = some (.int .i64 a.1) ∧ W.cell? ⟨gb, 1, none⟩ = some (.int .i64 a.2) ∧ W.cell? (ad.add (jk * 2)) = some (.int .i64 b.1) ∧ W.cell? ⟨(ad.add (jk * 2)).block, (ad.add (jk * 2)).off + 1, none⟩ = some (.int .i64 b.2)) (first | exact HK2.out _ HQ.drew | exact HK2.out _ (HQ.alloc _).drew | exact HK2.out _ (HQ.drew.alloc _) | exact HK2.out _ HQ9)
        ((refine step_append_itemsG kindG Try.underlying55 (HV1.alloc _).drew [(a, b)] (some ⟨W1.heap.size, 0, none⟩) 1 (items_one (heap_alloc_new W1 _) rfl (by simp)) (fun e => by cases e) (by have := HLN.out; unfold maxLen; simp; omega) (by have := HLN.out; simp; omega) rfl _ _ rfl rfl rfl ?_; rintro v9 w9 HR9 hg9; have HQ9 := Hold.grow (HQ.alloc _).drew HR9.1 hg9 (fun e he => by rcases List.mem_cons.1 he with rfl | he; exact HN.out; cases he); clear hg9))
      go_wp2_with fail
      go_roundg (ps.length - (k + 1))
      case measure => have := HGK.out; omega
      case rel => exact ⟨k + 1, by omega, rfl, by go_num, by rw [HT.out]; exact HR9⟩
    · obtain rfl : k = ps.length := by omega
      have e : (edg ps).take ps.length = edg ps := List.take_of_length_le (by rw [edg_len]; exact Nat.le_refl _)
      rw [e] at HV
      have HK := Lib.hid HV
      clear HV e
      go_wp2
      go_ret
      exact ⟨_, rfl, HK.out⟩
end Go.Proofs.Ytbcmnhbpomjinaa
