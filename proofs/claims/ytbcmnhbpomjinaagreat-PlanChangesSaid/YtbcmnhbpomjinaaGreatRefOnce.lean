/- The document's own once: a number more, if it is not there. -/
import Derived.Test.YtbcmnhbpomjinaaGreatPgE
namespace Go.Proofs.YtbcmnhbpomjinaaGreat
open Go.RowKit

section
variable {α : Type} {T : TypeId} {enc : α → List Value} {n bytes : Nat} {w0 W W' : World} {v : Value} {l : List α}
/-- One item more, and where the slice lies then. -/
theorem append_itemB (K : Kind T enc n bytes) {TS : TypeId} (hT : Tryz.prog.underlying TS = some (.slice T)) (HR : RowI w0 T n enc v l W) (x : α) (t' : TypeId) {cs : Array Value} (hcs : cs.toList = enc x)
    (hn : l.length + 1 ≤ maxLen) (hb : (l.length + 1) * bytes ≤ 140737488355328)
    {ops : Array Oper} {rest : List Oper} {o : Oper} {a : Act} {Q : Exit → Act → World → Prop} (hgd : o.guard = none) (s y : Operand)
    (ho : o.op = .call { callee := .builtin .append, args := #[s, y], argTypes := #[TS, TS] })
    (hs : a.eval s = v) (c : Nat) (hx : a.eval y = .slice (some ⟨W.heap.size, 0, none⟩) 1 c)
    (h : ∀ v' w', RowI w0 T n enc v' (l ++ [x]) w' → (W.alloc (Obj.cells cs t' (0, 0))).grownBy w' v.ownBlock → (v'.ownBlock = v.ownBlock ∨ v'.ownBlock = some (W.heap.size + 1)) → wpList Tryz.prog ops Q rest (a.put o.dst v') w') :
    wpList Tryz.prog ops Q (o :: rest) a (W.alloc (Obj.cells cs t' (0, 0))) := by
  obtain ⟨i0, z, hi, hz0, hz1, hz2, hz3⟩ := K.info
  have hA := HR.alloc (Obj.cells cs t' (0, 0))
  have hnew := heap_alloc_new W (Obj.cells cs t' (0, 0))
  refine wpList_append_own_at _ hgd s y TS ho w0.heap.size T i0 z n bytes hT hi hz0 hz1 hz2 hz3 K.pos v l.length (l.flatMap enc) hs hA.2 ⟨W.heap.size, 0, none⟩ 1 c (enc x) hx (by rw [K.len, Nat.one_mul]) ?_ (K.one x) hn hb hA.1.size ?_
  · intro j u hu
    rw [add_off, blk_cell hnew, ← hu, ← hcs, Array.getElem?_toList]
  · intro v' w' hown hgrow _ hat
    refine h v' w' ⟨grownB hA.1 (Nat.le_refl _) hgrow (fun k hk => (hA.2.lt k hk).1), ?_⟩ hgrow (by rw [World.size_alloc] at hat; exact hat)
    rw [List.length_append, List.flatMap_append, List.flatMap_cons, List.flatMap_nil, List.append_nil]
    exact hown
end
def onceL (l : List Int) (id : Int) : List Int := if id ∈ l then l else l ++ [id]
theorem mem_once {l : List Int} {id n : Int} : n ∈ onceL l id ↔ n ∈ l ∨ n = id := by
  unfold onceL; split
  · exact ⟨.inl, fun h => h.elim (fun h => h) (fun h => h ▸ ‹_›)⟩
  · rw [List.mem_append, List.mem_singleton]
theorem once_nodup {l : List Int} {id : Int} (h : l.Nodup) : (onceL l id).Nodup := by
  unfold onceL; split
  · exact h
  · exact List.nodup_append.2 ⟨h, by simp, fun a ha b hb e => by rw [List.mem_singleton.1 hb] at e; exact absurd (e ▸ ha) ‹_›⟩
theorem once_len {l : List Int} {id : Int} : (onceL l id).length ≤ l.length + 1 := by
  unfold onceL; split <;> simp
set_option maxRecDepth 100000 in
set_option maxHeartbeats 1000000 in
theorem ref_once (l : List Int) (id : Int) (w0 W : World) (v : Value) (hn : l.length ≤ 1000000) (hv : RowI w0 3 1 encN v l W) :
    Calls Tryz.prog 68 #[v, .int .i64 id] W fun e W' => ∃ v', e = .returned v' ∧ RowI w0 3 1 encN v' (onceL l id) W' ∧ W.grownBy W' v.ownBlock := by
  obtain ⟨A, c, rfl, hi, -⟩ := hv.items
  have HV := Lib.hid hv
  have HI := Lib.hid hi
  have HN := Lib.hid hn
  clear hv hi hn
  go_enter Tryz.func68, Tryz.ntmps68
  go_wp2_with fail
  go_loopg [5] l.length (fun g i wr => ∃ k : Nat, k ≤ l.length ∧ g = l.length - k ∧ i = .int .i64 k ∧ id ∉ l.take k ∧ W = wr)
  case atStart => exact ⟨0, Nat.zero_le _, rfl, rfl, by simp, rfl⟩
  case round =>
    obtain ⟨k, hk, hgk, rfl, hno, rfl⟩ := hrel
    have HGK := Lib.hid hgk
    have HNO := Lib.hid hno
    clear hgk hno
    have b9 : (l.length : Int) ≤ 1000000 := by have := HN.out; omega
    by_cases hlt : k < l.length
    · obtain ⟨ad, rfl, -, hc0, -⟩ := HI.out.at kindN.len hlt
      have d0 := hc0 _ (by decide) rfl
      rw [Nat.mul_one] at d0
      have HM : Hid (l[k] ∈ l) := List.getElem_mem hlt
      have HT : Hid (l.take (k + 1) = l.take k ++ [l[k]]) := List.take_succ_eq_append_getElem hlt
      have b0 : (0 : Int) ≤ (k : Int) := by omega
      have b1 : (k : Int) < (l.length : Int) := by omega
      clear hc0
      generalize l[k] = a at *
      by_cases h : a = id
      · have HE : Hid (onceL l id = l) := by unfold Hid onceL; rw [if_pos (h ▸ HM.out)]
        have e1 : (a == id) = true := by simpa using h
        clear h HT HNO
        go_wp2
        go_ret
        exact ⟨_, rfl, by rw [HE.out]; exact HV.out, World.grownBy.refl _ _⟩
      · have HX : Hid (id ∉ l.take (k + 1)) := by
          unfold Hid
          rw [HT.out, List.mem_append, List.mem_singleton]
          rintro (h1 | h1)
          · exact HNO.out h1
          · exact h h1.symm
        have e1 : (a == id) = false := by simpa using h
        clear h HT HNO
        go_wp2
        go_roundg (l.length - (k + 1))
        case measure => have := HGK.out; omega
        case rel => exact ⟨k + 1, by omega, rfl, by go_num, HX.out, rfl⟩
    · obtain rfl : k = l.length := by omega
      have HE : Hid (onceL l id = l ++ [id]) := by
        have := HNO.out
        rw [List.take_length] at this
        unfold Hid onceL; rw [if_neg this]
      clear HNO HI
      go_wp2_with (at_builtin; go_must (refine append_itemB kindN Tryz.underlying51 HV.out id 3 (cs := #[.int .i64 id]) rfl (by have := HN.out; unfold maxLen; omega) (by have := HN.out; omega) rfl _ _ rfl rfl 1 rfl ?_; intro v9 w9 hr9 hg9 ha9; have HR9 := Lib.hid hr9; have HG9 := Lib.hid ((World.grownBy_alloc _ _ _).trans hg9); clear hr9 hg9 ha9))
      go_ret
      exact ⟨_, rfl, by rw [HE.out]; exact HR9.out, HG9.out⟩
end Go.Proofs.YtbcmnhbpomjinaaGreat
