/- Lists and objects. -/
import Derived.Test.YtmjooghfghmngaaDoorJWith
namespace Go.Proofs.YtmjooghfghmngaaDoor
open Go.RowKit Go.Shelf Go.Lib

theorem flatS : ∀ (l : List ByteArray), l.flatMap strC = l.map Value.string
  | [] => rfl
  | t :: l => by rw [List.flatMap_cons, flatS l]; rfl
theorem flat_at : ∀ (l : List PV) (i : Nat) (p : PV), l[i]? = some p → ∀ j, j < 4 → (l.flatMap PV.cells)[i * 4 + j]? = p.cells[j]?
  | [], i, p, h, _, _ => by cases h
  | q :: l, 0, p, h, j, hj => by
    cases h
    rw [List.flatMap_cons, Nat.zero_mul, Nat.zero_add, List.getElem?_append_left (by show j < 4; exact hj)]
  | q :: l, i + 1, p, h, j, hj => by
    rw [List.flatMap_cons, List.getElem?_append_right (by show 4 ≤ _; omega)]
    rw [show (i + 1) * 4 + j - q.cells.length = i * 4 + j by show (i + 1) * 4 + j - 4 = _; omega]
    exact flat_at l i p h j hj
/-- What a list, or an object, holds is a value. -/
theorem SeqP.value {b n d : Nat} {ar K : Int} {kv lv : Value} {l : List PV} {F : Nat → Prop} {ks : List ByteArray} {xs : List JV} {W : World} (h : SeqP b n ar K d kv lv l F ks xs W) :
    ∃ F', VAt W F' (d + 1 + 1) ⟨K, ⟨#[]⟩, kv, lv⟩ (.mk K noT ks xs) ∧ ∀ k, F' k → n + 4 ≤ k ∧ k < W.heap.size := by
  refine ⟨fun k => F k ∨ kv.ownBlock = some k ∨ lv.ownBlock = some k, ⟨rfl, rfl, ?_, ?_⟩, ?_⟩
  · rcases h.keys.2 with ⟨rfl, h0⟩ | ⟨g, cap, cur, rfl, _, _, hnc, _⟩
    · have : ks = [] := List.eq_nil_of_length_eq_zero h0
      subst this
      exact ⟨none, 0, rfl, Nat.le_refl _, fun i t ht => by cases ht⟩
    · refine ⟨_, cap, rfl, hnc, fun i t ht => ⟨g, 0, rfl, .inr (.inl rfl), ?_⟩⟩
      have hi := (List.getElem?_eq_some_iff.1 ht).1
      have := h.keys.cellAt i (by omega)
      rw [flatS, List.getElem?_map, ht] at this
      rw [Nat.zero_add]
      exact this
  · rcases h.list.2 with ⟨rfl, h0⟩ | ⟨g, cap, cur, rfl, _, _, hnc, _⟩
    · have : xs = [] := List.eq_nil_of_length_eq_zero h0
      subst this
      exact ⟨none, 0, rfl, Nat.le_refl _, fun i t ht => by cases ht⟩
    · refine ⟨_, cap, rfl, hnc, fun i x hx => ?_⟩
      have hi := (List.getElem?_eq_some_iff.1 hx).1
      obtain ⟨p, hp⟩ : ∃ p, l[i]? = some p := ⟨l[i]'(by rw [h.len]; exact hi), List.getElem?_eq_getElem _⟩
      have hc : ∀ j, j < 4 → W.cell? ⟨g, i * 4 + j, none⟩ = p.cells[j]? := fun j hj => by
        rw [h.list.cellAt _ (by omega)]
        exact flat_at l i p hp j hj
      refine ⟨g, 0, p, rfl, .inr (.inr rfl), ?_, ?_, ?_, ?_, (h.each i p x hp hx).keep (fun k hk => ⟨.inl hk, rfl⟩)⟩
      · rw [Nat.zero_add]; exact hc 0 (by decide)
      · rw [Nat.zero_add]; exact hc 1 (by decide)
      · rw [Nat.zero_add]; exact hc 2 (by decide)
      · rw [Nat.zero_add]; exact hc 3 (by decide)
  · intro k hk
    rcases hk with hk | hk | hk
    · have := h.new k hk; exact ⟨this.1, this.2.1⟩
    · exact h.keys.lt k hk
    · exact h.list.lt k hk

theorem infoS4 : (Tryd.prog.info? 25).map (·.size) = some 4 := by kernel_rfl
set_option maxHeartbeats 4000000 in
theorem list_any {b d c : Nat} {A : Option Addr} {s : List UInt8} {w : World} {tk : Tk} (hd : d ≤ 31)
    (HV0 : ∀ W tk, Rd W b A c s tk.k (tk.a : Nat) tk.t tk.q → TW s tk → Calls Tryd.prog 23 #[.pointer (some ⟨b, 0, none⟩), .int .i64 ((31 : Int) - (d : Int) + 1)] W (OutV b A c s d (valN s d tk) W))
    (hR : Rd w b A c s tk.k (tk.a : Nat) tk.t tk.q) (hT : TW s tk) (hq : 1 ≤ tk.q) :
    Calls Tryd.prog 42 #[.pointer (some ⟨b, 0, none⟩), .int .i64 ((31 : Int) - (d : Int))] w (OutV b A c s (d + 1) (match seqN s (listPart (valN s d)) 93 tk with | .error e => .error e | .ok y => .ok (.mk 6 noT y.1.1 y.1.2, y.2)) w) := by
  obtain ⟨rr, hrr⟩ : ∃ r, r = (match seqN s (listPart (valN s d)) 93 tk with | .error e => .error e | .ok y => .ok (JV.mk 6 noT y.1.1 y.1.2, y.2) : RR (JV × Tk)) := ⟨_, rfl⟩
  rw [← hrr]
  have HRR := Lib.hid hrr
  have HV := Lib.hid HV0
  obtain ⟨ar, har⟩ : ∃ ar, ar = (31 : Int) - (d : Int) := ⟨_, rfl⟩
  rw [← har] at HV ⊢
  have har0 : 0 ≤ ar := by omega
  have har1 : ar ≤ 31 := by omega
  have hb := hR.lt
  have HA := Lib.hid hR.inLt
  clear HV0 hrr har
  go_enter Tryd.func42, Tryd.ntmps42
  go_wp2_with fail
  have h1 := heap_alloc_new w (Obj.cells #[Value.pointer (some ⟨b, 0, none⟩)] 60)
  have h1' := blk_alloc (blk_alloc (blk_alloc h1 (Obj.cells #[Value.int .i64 ar] 3)) (Obj.cells #[Value.int .i64 0, Value.string ⟨#[]⟩, Value.slice none 0 0, Value.slice none 0 0] 25)) (Obj.cells #[Value.int .i64 6, Value.string ⟨#[]⟩, Value.slice none 0 0, Value.slice none 0 0] 25)
  have h2 := heap_alloc_new (w.alloc (Obj.cells #[Value.pointer (some ⟨b, 0, none⟩)] 60)) (Obj.cells #[Value.int .i64 ar] 3)
  have h2' := blk_alloc (blk_alloc h2 (Obj.cells #[Value.int .i64 0, Value.string ⟨#[]⟩, Value.slice none 0 0, Value.slice none 0 0] 25)) (Obj.cells #[Value.int .i64 6, Value.string ⟨#[]⟩, Value.slice none 0 0, Value.slice none 0 0] 25)
  have h3 := heap_alloc_new ((w.alloc (Obj.cells #[Value.pointer (some ⟨b, 0, none⟩)] 60)).alloc (Obj.cells #[Value.int .i64 ar] 3)) (Obj.cells #[Value.int .i64 0, Value.string ⟨#[]⟩, Value.slice none 0 0, Value.slice none 0 0] 25)
  have h3' := blk_alloc h3 (Obj.cells #[Value.int .i64 6, Value.string ⟨#[]⟩, Value.slice none 0 0, Value.slice none 0 0] 25)
  have h4 := heap_alloc_new (((w.alloc (Obj.cells #[Value.pointer (some ⟨b, 0, none⟩)] 60)).alloc (Obj.cells #[Value.int .i64 ar] 3)).alloc (Obj.cells #[Value.int .i64 0, Value.string ⟨#[]⟩, Value.slice none 0 0, Value.slice none 0 0] 25)) (Obj.cells #[Value.int .i64 6, Value.string ⟨#[]⟩, Value.slice none 0 0, Value.slice none 0 0] 25)
  have hR4 := (((hR.alloc (Obj.cells #[Value.pointer (some ⟨b, 0, none⟩)] 60)).alloc (Obj.cells #[Value.int .i64 ar] 3)).alloc (Obj.cells #[Value.int .i64 0, Value.string ⟨#[]⟩, Value.slice none 0 0, Value.slice none 0 0] 25)).alloc (Obj.cells #[Value.int .i64 6, Value.string ⟨#[]⟩, Value.slice none 0 0, Value.slice none 0 0] 25)
  have hG4 := grew_alloc (grew_alloc (grew_alloc (grew_alloc (World.grownBy.refl w (some b)) (Obj.cells #[Value.pointer (some ⟨b, 0, none⟩)] 60)) (Obj.cells #[Value.int .i64 ar] 3)) (Obj.cells #[Value.int .i64 0, Value.string ⟨#[]⟩, Value.slice none 0 0, Value.slice none 0 0] 25)) (Obj.cells #[Value.int .i64 6, Value.string ⟨#[]⟩, Value.slice none 0 0, Value.slice none 0 0] 25)
  have hz : ((((w.alloc (Obj.cells #[Value.pointer (some ⟨b, 0, none⟩)] 60)).alloc (Obj.cells #[Value.int .i64 ar] 3)).alloc (Obj.cells #[Value.int .i64 0, Value.string ⟨#[]⟩, Value.slice none 0 0, Value.slice none 0 0] 25)).alloc (Obj.cells #[Value.int .i64 6, Value.string ⟨#[]⟩, Value.slice none 0 0, Value.slice none 0 0] 25)).heap.size = w.heap.size + 4 := by simp
  simp only [World.size_alloc] at h2' h3' h4
  clear h1 h2 h3
  generalize World.alloc _ _ = W4 at h1' h2' h3' h4 hR4 hG4 hz ⊢
  obtain ⟨n, hn⟩ : ∃ n, n = w.heap.size := ⟨_, rfl⟩
  rw [← hn] at h1' h2' h3' h4 hz hb HA ⊢
  have HNN := Lib.hid hn
  have hS : SeqI b n ar 6 d [] [] W4 := ⟨.slice none 0 0, .slice none 0 0, [], fun _ => False, ⟨h1', h2', h3', h4, World.ownsRow_nil _ _ _ _, World.ownsRow_nil _ _ _ _, rfl, fun i p x hp => (by cases hp), fun k hk => hk.elim, .inl rfl⟩⟩
  have HWI := Lib.hid (within_list (part := listPart (valN s d)) hb har0 har1 (fun W tk ks xs h1 h2 h3 h4 h5 h6 h7 => by subst h7; exact listClo hb HA.out har0 har1 HV.out h1 h2 h3 h4 h5) (fun t ht => listPart_fwd (valN_fwd d t ht)) (fun t x hx => by
    unfold listPart at hx
    split at hx
    · cases hx; exact ⟨Nat.zero_le _, rfl⟩
    · cases hx) hR4 hT hq hS (by omega))
  have HG4 := Lib.hid hG4
  have HZ := Lib.hid hz
  clear h1' h2' h3' h4 hR4 hG4 hz hn hS hR
  go_at_call 58
  refine HWI.out.mono ?_
  rintro e' W5 ⟨f5, ⟨y, hy, rfl, r5, i5⟩ | ⟨a', e2, hy, rfl⟩⟩
  · obtain ⟨kv, lv, l, F, hp⟩ := i5
    obtain ⟨Ak, ck, rfl⟩ := row_slice4 hp.keys
    obtain ⟨Al, cl, rfl⟩ := row_slice4 hp.list
    obtain ⟨F', hV, hF'⟩ := hp.value
    have v0 := blk_cell hp.val 0
    have v1 := blk_cell hp.val 1
    have v2 := blk_cell hp.val 2
    have v3 := blk_cell hp.val 3
    have u0 := blk_cell hp.res 0
    have u1 := blk_cell hp.res 1
    have u2 := blk_cell hp.res 2
    have u3 := blk_cell hp.res 3
    have y0 := blk_frozen hp.res 0
    have y1 := blk_frozen hp.res 1
    have y2 := blk_frozen hp.res 2
    have y3 := blk_frozen hp.res 3
    go_wp2_with fail
    have hlt4 : n + 2 < n + 4 := by omega
    have hge : n ≤ n + 1 + 1 := by omega
    have bl := ((((Below.refl n W5).setCell (p := ⟨n + 1 + 1, 0, none⟩) hge (.int .i64 6)).setCell (p := ⟨n + 1 + 1, 1, none⟩) hge (.string ⟨#[]⟩)).setCell (p := ⟨n + 1 + 1, 2, none⟩) hge (.slice Ak y.1.1.length ck)).setCell (p := ⟨n + 1 + 1, 3, none⟩) hge (.slice Al y.1.2.length cl)
    have r6 := r5.under bl hb HA.out
    have ff : ∀ k, k ≠ n + 1 + 1 → ((((W5.setCell ⟨n + 1 + 1, 0, none⟩ (.int .i64 6)).setCell ⟨n + 1 + 1, 1, none⟩ (.string ⟨#[]⟩)).setCell ⟨n + 1 + 1, 2, none⟩ (.slice Ak y.1.1.length ck)).setCell ⟨n + 1 + 1, 3, none⟩ (.slice Al y.1.2.length cl)).heap[k]? = W5.heap[k]? := fun k hk =>
      (Below.heap_setCell _ _ _ k hk).trans ((Below.heap_setCell _ _ _ k hk).trans ((Below.heap_setCell _ _ _ k hk).trans (Below.heap_setCell _ _ _ k hk)))
    have hsz := bl.size
    have hfin : ((((W5.setCell ⟨n + 1 + 1, 0, none⟩ (.int .i64 6)).setCell ⟨n + 1 + 1, 1, none⟩ (.string ⟨#[]⟩)).setCell ⟨n + 1 + 1, 2, none⟩ (.slice Ak y.1.1.length ck)).setCell ⟨n + 1 + 1, 3, none⟩ (.slice Al y.1.2.length cl)).heap[n + 2]? = some (.cells #[.int .i64 6, .string ⟨#[]⟩, .slice Ak y.1.1.length ck, .slice Al y.1.2.length cl] 25 (0, 0)) := blk_set (blk_set (blk_set (blk_set hp.res 0 (.int .i64 6)) 1 (.string ⟨#[]⟩)) 2 (.slice Ak y.1.1.length ck)) 3 (.slice Al y.1.2.length cl)
    refine bodyPost_ret (v := PV.val ⟨6, ⟨#[]⟩, .slice Ak y.1.1.length ck, .slice Al y.1.2.length cl⟩) ?_ rfl (OutV.yes (x := .mk 6 noT y.1.1 y.1.2) (tk := y.2) (F := F') ?_ r6 ?_ ?_ ?_)
    · exact results_cell_row rfl _ _ (n + 2) 25 #[.int .i64 6, .string ⟨#[]⟩, .slice Ak y.1.1.length ck, .slice Al y.1.2.length cl] (0, 0) _ rfl hfin Tryd.underlying25 rfl infoS4
    · rw [HRR.out, hy]
    · exact hV.keep (fun g hg => ⟨hg, ff g (by have := hF' g hg; omega)⟩)
    · intro k hk
      have h1 := hF' k hk
      have h2 := HNN.out
      exact ⟨by omega, by omega⟩
    · exact ((Fr.of HG4.out (by have := HNN.out; omega)).trans ((((f5.set (by show n ≤ n + 1 + 1; omega) _).set (by show n ≤ n + 1 + 1; omega) _).set (by show n ≤ n + 1 + 1; omega) _).set (by show n ≤ n + 1 + 1; omega) _)).back HNN.out.symm
  · refine ⟨rfl, OutV.no (a := a') (e' := e2) ?_ ?_⟩
    · rw [HRR.out, hy]
    · exact ((Fr.of HG4.out (by have := HNN.out; omega)).trans f5).back HNN.out.symm
end Go.Proofs.YtmjooghfghmngaaDoor
