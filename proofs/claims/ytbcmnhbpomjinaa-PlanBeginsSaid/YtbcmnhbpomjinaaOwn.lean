/- A whole list of points appended to a slice of the call's own; the given law package's copy of a ring. -/
import Derived.Test.YtbcmnhbpomjinaaRefSide
import Derived.Laws.AppendOwnNone
namespace Go.Proofs.Ytbcmnhbpomjinaa
open Go.RowKit

theorem flatP_append : ∀ (ps qs : List (Int × Int)), flatP (ps ++ qs) = flatP ps ++ flatP qs
  | [], qs => rfl
  | p :: ps, qs => by simp only [List.cons_append, flatP, flatP_append ps qs]
theorem flatP_one : ∀ (ps : List (Int × Int)), ∀ u ∈ flatP ps, u.oneCell' = true
  | [], u, h => by cases h
  | p :: ps, u, h => by
    simp only [flatP, List.mem_cons] at h
    rcases h with rfl | rfl | h
    · rfl
    · rfl
    · exact flatP_one ps u h
theorem flatP_cells {w : World} {B : Nat} {ad : Addr} {ps : List (Int × Int)} (hr : Pts w B (some ad) ps) : ∀ j u, (flatP ps)[j]? = some u → w.cell? (ad.add j) = some u := by
  intro j u hu
  have hlt : j < (flatP ps).length := (List.getElem?_eq_some_iff.1 hu).1
  rw [flatP_length] at hlt
  obtain ⟨ad', e, -, hc⟩ := hr (by omega)
  obtain rfl : ad = ad' := Option.some.inj e
  have hk : j / 2 < ps.length := by omega
  have hp : ps[j / 2]? = some ps[j / 2] := List.getElem?_eq_getElem hk
  obtain ⟨c0, c1⟩ := hc _ _ hp
  obtain ⟨g0, g1⟩ := flatP_get ps (j / 2)
  rw [hp] at g0 g1
  rcases Nat.mod_two_eq_zero_or_one j with hm | hm
  · rw [show j / 2 * 2 = j by omega] at g0 c0
    rw [hu] at g0
    rw [c0]; exact g0.symm
  · rw [show j / 2 * 2 + 1 = j by omega, hu] at g1
    have e1 : (ad.add (j / 2 * 2)).add 1 = ad.add j := by
      rw [Go.Deep.add_add, show j / 2 * 2 + 1 = j by omega]
    rw [e1] at c1
    rw [c1]; exact g1.symm
/-- A nil slice has no room. -/
def NilOk (A : Option Addr) (cap : Nat) : Prop := A = none → cap = 0
/-- A slice of points, appended whole to one of the call's own. -/
theorem append_pts {w0 W : World} {v : Value} {ps : List (Int × Int)} (T : TypeId) (hT : Try.prog.underlying T = some (.slice 43)) (HR : Row w0 v ps W)
    (qs : List (Int × Int)) (A : Option Addr) (c : Nat) (hq : Pts W W.heap.size A qs) (hnil : NilOk A c) (hb : (ps.length + qs.length) * 16 ≤ 140737488355328)
    {ops : Array Oper} {rest : List Oper} {o : Oper} {a : Act} {Q : Exit → Act → World → Prop} (hgd : o.guard = none) (s x : Operand)
    (ho : o.op = .call { callee := .builtin .append, args := #[s, x], argTypes := #[T, T] })
    (hs : a.eval s = v) (hx : a.eval x = .slice A qs.length c)
    (h : ∀ v' w', Row w0 v' (ps ++ qs) w' → wpList Try.prog ops Q rest (a.put o.dst v') w') :
    wpList Try.prog ops Q (o :: rest) a W := by
  obtain ⟨i0, hi, hz0, hz1, hz2⟩ := info_parts infoP
  cases A with
  | none =>
    obtain rfl : qs = [] := by
      cases qs with
      | nil => rfl
      | cons p q => obtain ⟨_, e, _⟩ := hq (by simp); cases e
    obtain rfl := hnil rfl
    refine wpList_append_own_none hgd s x T ho w0.heap.size 43 i0 2 hT hi v ps.length (flatP ps) hs HR.2 hx ?_
    have := h v W (by rw [List.append_nil]; exact HR)
    exact this
  | some ad =>
    refine wpList_append_own _ hgd s x T ho w0.heap.size 43 i0 (.agg #[.int .i64 0, .int .i64 0]) 2 16 hT hi hz0 hz1 hz2 rfl (by decide) v ps.length (flatP ps) hs HR.2 ad qs.length c (flatP qs) hx (flatP_length qs) (flatP_cells hq) (flatP_one qs) (by unfold maxLen; omega) hb HR.1.size ?_
    intro v' w' hown hgrow _
    refine h v' w' ⟨grownB HR.1 (Nat.le_refl _) hgrow (fun k hk => (HR.2.lt k hk).1), ?_⟩
    rw [List.length_append, flatP_append]
    exact hown
/-- The same at the operation itself, and in a region that draws its order. -/
theorem wp_append_pts {w0 W : World} {v : Value} {ps : List (Int × Int)} (T : TypeId) (hT : Try.prog.underlying T = some (.slice 43)) (HR : Row w0 v ps W)
    (qs : List (Int × Int)) (A : Option Addr) (c : Nat) (hq : Pts W W.heap.size A qs) (hnil : NilOk A c) (hb : (ps.length + qs.length) * 16 ≤ 140737488355328)
    {o : Oper} {a : Act} {K : Act → World → Prop} {Q : Exit → Act → World → Prop} (s x : Operand)
    (ho : o.op = .call { callee := .builtin .append, args := #[s, x], argTypes := #[T, T] })
    (hs : a.eval s = v) (hx : a.eval x = .slice A qs.length c)
    (h : ∀ v' w', Row w0 v' (ps ++ qs) w' → K (a.put o.dst v') w') : o.wp Try.prog a W K Q := by
  obtain ⟨i0, hi, hz0, hz1, hz2⟩ := info_parts infoP
  cases A with
  | none =>
    obtain rfl : qs = [] := by
      cases qs with
      | nil => rfl
      | cons p q => obtain ⟨_, e, _⟩ := hq (by simp); cases e
    obtain rfl := hnil rfl
    have hrun := run_append_owned_none (P := Try.prog) (w := W) w0.heap.size T o.type 43 i0 2 hT hi v ps.length (flatP ps) HR.2
    have h' := h v W (by rw [List.append_nil]; exact HR)
    unfold Oper.wp
    have hx' : a.eval x = .slice none 0 0 := hx
    simp [execOp, ho, resolve, invoke, builtin, hs, hx', hrun, Result.andThen]
    exact h'
  | some ad =>
    refine wp_append_own W s x T ho w0.heap.size 43 i0 (.agg #[.int .i64 0, .int .i64 0]) 2 16 hT hi hz0 hz1 hz2 rfl (by decide) v ps.length (flatP ps) hs HR.2 ad qs.length c (flatP qs) hx (flatP_length qs) (flatP_cells hq) (flatP_one qs) (by unfold maxLen; omega) hb HR.1.size ?_
    intro v' w' hown hgrow _
    refine h v' w' ⟨grownB HR.1 (Nat.le_refl _) hgrow (fun k hk => (HR.2.lt k hk).1), ?_⟩
    rw [List.length_append, flatP_append]
    exact hown
theorem step_append_pts {w0 W : World} {v : Value} {ps : List (Int × Int)} (T : TypeId) (hT : Try.prog.underlying T = some (.slice 43)) (HR : Row w0 v ps W)
    (qs : List (Int × Int)) (A : Option Addr) (c : Nat) (hq : Pts W W.heap.size A qs) (hnil : NilOk A c) (hb : (ps.length + qs.length) * 16 ≤ 140737488355328)
    {ops : Array Oper} {o : Oper} {a : Act} {K : Act → World → Prop} {Q : Exit → Act → World → Prop} {E : Prop} (hgd : o.guard = none) (s x : Operand)
    (ho : o.op = .call { callee := .builtin .append, args := #[s, x], argTypes := #[T, T] })
    (hs : a.eval s = v) (hx : a.eval x = .slice A qs.length c)
    (h : ∀ v' w', Row w0 v' (ps ++ qs) w' → K (a.put o.dst v') w') :
    if Region.wanted o (yielded ops a.tmps) = true then Oper.wp Try.prog o a W K Q else E := by
  have hw : Region.wanted o (yielded ops a.tmps) = true := by simp [Region.wanted, hgd]
  rw [if_pos hw]
  exact wp_append_pts T hT HR qs A c hq hnil hb s x ho hs hx h
theorem Row.made (w : World) (t : TypeId) (ht : t = 43) : Row w (.slice (some ⟨w.heap.size, 0, none⟩) 0 0) [] (w.alloc (Obj.cells #[] t (0, 0))) := by
  subst ht
  exact ⟨(Below.refl _ w).alloc (Nat.le_refl _) _, World.ownsRow_made w #[] 0 (Nat.le_refl _) (by unfold maxLen; omega) rfl⟩
theorem Row.nilOk {w0 W : World} {ps : List (Int × Int)} {v : Value} (h : Row w0 v ps W) : ∃ A cap, v = .slice A ps.length cap ∧ Pts W W.heap.size A ps ∧ NilOk A cap := by
  obtain ⟨A, cap, rfl, hp⟩ := h.pts
  refine ⟨A, cap, rfl, hp, fun e => ?_⟩
  subst e
  rcases h.2.2 with ⟨e, -⟩ | ⟨g, cap', cur, e, -⟩
  · exact (Value.slice.inj e).2.2
  · cases e

/-- The slices r[k:] and r[:k] of a slice of points. -/
theorem Pts.drop {w : World} {B : Nat} {ad : Addr} {ps : List (Int × Int)} {k : Nat} (h : Pts w B (some ad) ps) (hk : k < ps.length) : Pts w B (some (ad.add (k * 2))) (ps.drop k) := by
  intro _
  obtain ⟨ad', e, hb, hc⟩ := h (by omega)
  obtain rfl := Option.some.inj e
  refine ⟨_, rfl, by rw [block_of_add]; exact hb, fun i p hp => ?_⟩
  rw [List.getElem?_drop] at hp
  obtain ⟨c0, c1⟩ := hc (k + i) p hp
  rw [Go.Deep.add_add, show k * 2 + i * 2 = (k + i) * 2 by omega]
  exact ⟨c0, c1⟩
theorem Pts.take {w : World} {B : Nat} {A : Option Addr} {ps : List (Int × Int)} (k : Nat) (h : Pts w B A ps) : Pts w B A (ps.take k) := by
  intro hl
  rw [List.length_take] at hl
  obtain ⟨ad, e, hb, hc⟩ := h (by omega)
  refine ⟨ad, e, hb, fun i p hp => hc i p ?_⟩
  by_cases hi : i < k
  · rwa [List.getElem?_take_of_lt hi] at hp
  · rw [List.getElem?_eq_none (by rw [List.length_take]; omega)] at hp; cases hp
end Go.Proofs.Ytbcmnhbpomjinaa
