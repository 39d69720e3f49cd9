/- A sign that is taken; a key more. -/
import Derived.Test.YtmjooghfghmngaaDoorJClo
namespace Go.Proofs.YtmjooghfghmngaaDoor
open Go.RowKit Go.Shelf Go.Lib

/-- What becomes of a token that is read. -/
def OutK (b : Nat) (A : Option Addr) (c : Nat) (s : List UInt8) (r : RR Tk) (w : World) (e : Ending) (w' : World) : Prop :=
  w.grownBy w' (some b) ∧ ((∃ tk, r = .ok tk ∧ e = .returned (.tuple #[]) ∧ Rd w' b A c s tk.k (tk.a : Nat) tk.t tk.q) ∨ (∃ (a : Nat) (e' : Int), r = .error (a, e') ∧ e = thrown a e'))
def takeN (s : List UInt8) (sign : Int) (tk : Tk) : RR Tk := if tk.k = sign then tokN s tk.q else .error (tk.a, 11)

theorem nextK {w : World} {b : Nat} {A : Option Addr} {c : Nat} {s : List UInt8} {k a : Int} {t : ByteArray} {p : Nat} (h : Rd w b A c s k a t p) :
    Calls Tryd.prog 22 #[.pointer (some ⟨b, 0, none⟩)] w (OutK b A c s (tokN s p) w) := by
  refine (next_any h).mono ?_
  intro e w' ho
  obtain ⟨hG, ⟨tk, hr, he, hR⟩ | ⟨a, hr, he⟩⟩ := ho.tok
  · exact ⟨hG, .inl ⟨tk, hr, he, hR⟩⟩
  · exact ⟨hG, .inr ⟨a, 11, hr, he⟩⟩

set_option maxHeartbeats 1000000 in
theorem take_any {w : World} {b : Nat} {A : Option Addr} {c : Nat} {s : List UInt8} {tk : Tk} (h : Rd w b A c s tk.k (tk.a : Nat) tk.t tk.q) (sign : Int) :
    Calls Tryd.prog 61 #[.pointer (some ⟨b, 0, none⟩), .int .i64 sign] w (OutK b A c s (takeN s sign tk) w) := by
  by_cases hk : tk.k = sign
  · subst hk
    have HWY := Lib.hid (want_yes h)
    have HN := Lib.hid (nextK h)
    have hr : takeN s tk.k tk = tokN s tk.q := if_pos rfl
    rw [hr]
    clear hr
    generalize tk.k = k at *
    go_enter Tryd.func61, Tryd.ntmps61
    go_wp2_with (go_at_call 24; (with_reducible refine HWY.out.mono ?_); rintro e' _ ⟨rfl, rfl⟩)
    go_at_call 22
    refine HN.out.mono ?_
    rintro e' W2 ⟨hG, ⟨tk2, hr, rfl, hR⟩ | ⟨a', e2, hr, rfl⟩⟩
    · go_wp2_with fail
      refine bodyPost_end (results_none rfl _ _ _) rfl ?_
      exact ⟨hG, .inl ⟨tk2, hr, rfl, hR⟩⟩
    · exact ⟨rfl, hG, .inr ⟨a', e2, hr, rfl⟩⟩
  · have HWN := Lib.hid (want_no h sign hk)
    have hr : takeN s sign tk = .error (tk.a, 11) := if_neg hk
    rw [hr]
    clear hr
    go_enter Tryd.func61, Tryd.ntmps61
    go_wp2_with fail
    go_at_call 24
    refine HWN.out.mono ?_
    rintro e' W2 ⟨rfl, hB⟩
    exact ⟨rfl, grew_of hB _, .inr ⟨tk.a, 11, rfl, rfl⟩⟩

section
variable {b n d c : Nat} {ar K : Int} {kv lv : Value} {l : List PV} {F : Nat → Prop} {ks : List ByteArray} {xs : List JV} {W3 W5 : World} {h0 c0 : Nat} {t : ByteArray}
/-- A key more: behind the append and the store. -/
theorem SeqP.growK (h : SeqP b n ar K d kv lv l F ks xs W3) (hn : n + 4 ≤ W3.heap.size)
    (hrow : W5.ownsRow (n + 4) 9 1 (.slice (some ⟨h0, 0, none⟩) (ks.length + 1) c0) (ks.length + 1) (ks.flatMap strC ++ strC t)) (hg : W3.grownBy W5 kv.ownBlock) (hh0 : some h0 = kv.ownBlock ∨ h0 = W3.heap.size) :
    SeqP b n ar K d (.slice (some ⟨h0, 0, none⟩) (ks.length + 1) c0) lv l F (ks ++ [t]) xs (W5.setCell ⟨n + 3, 2, none⟩ (.slice (some ⟨h0, 0, none⟩) (ks.length + 1) c0)) ∧
    Below n W3 (W5.setCell ⟨n + 3, 2, none⟩ (.slice (some ⟨h0, 0, none⟩) (ks.length + 1) c0)) := by
  have hb := (hrow.lt h0 rfl).1
  have hkb : ∀ k, k < n + 4 → some k ≠ kv.ownBlock := fun k hk e => by have := h.keys.lt k e.symm; omega
  have hoth : ∀ k, k < W3.heap.size → some k ≠ kv.ownBlock → k ≠ n + 3 → (W5.setCell ⟨n + 3, 2, none⟩ (.slice (some ⟨h0, 0, none⟩) (ks.length + 1) c0)).heap[k]? = W3.heap[k]? := fun k hk h1 h2 =>
    (Below.heap_setCell W5 _ _ k (by show k ≠ n + 3; exact h2)).trans (hg.block k hk h1)
  have hv := (hg.block (n + 3) (blk_lt h.val) (hkb _ (by omega))).trans h.val
  have hlk : ∀ k, lv.ownBlock = some k → k ≠ h0 ∧ some k ≠ kv.ownBlock ∧ k < W3.heap.size ∧ n + 4 ≤ k := fun k e => by
    have h1 := h.list.lt k e
    have h2 : some k ≠ kv.ownBlock := fun e2 => by
      rcases h.apart with h3 | h3
      · rw [h3] at e2; cases e2
      · exact h3 (by rw [e, e2])
    refine ⟨?_, h2, h1.2, h1.1⟩
    rcases hh0 with e' | e'
    · intro h3; exact h2 (by rw [h3]; exact e')
    · omega
  have hsz := hg.size
  refine ⟨⟨(hoth n (blk_lt h.box) (hkb _ (by omega)) (by omega)).trans h.box, (hoth (n + 1) (blk_lt h.boxa) (hkb _ (by omega)) (by omega)).trans h.boxa, (hoth (n + 2) (blk_lt h.res) (hkb _ (by omega)) (by omega)).trans h.res, blk_set hv 2 _, ?_, ?_, h.len, ?_, ?_, ?_⟩, ?_⟩
  · have := hrow.kept (grew_set (World.grownBy.refl W5 (some (n + 3))) 2 (.slice (some ⟨h0, 0, none⟩) (ks.length + 1) c0)) (.inr (by simp [Value.ownBlock]; omega))
    rw [List.flatMap_append]
    simpa using this
  · refine ⟨h.list.1, ?_⟩
    rcases h.list.2 with h1 | ⟨g, cap, cur, e, hb1, hgg, rest⟩
    · exact .inl h1
    · have h2 := hlk g (by rw [e]; rfl)
      exact .inr ⟨g, cap, cur, e, hb1, (hoth g h2.2.2.1 h2.2.1 (by omega)).trans hgg, rest⟩
  · intro i p x hp hx
    exact (h.each i p x hp hx).keep (fun g hg' => ⟨hg', hoth g (h.new g hg').2.1 (h.new g hg').2.2.1 (by have := (h.new g hg').1; omega)⟩)
  · intro k hk
    have h1 := h.new k hk
    refine ⟨h1.1, by simp only [World.setCell, Array.size_modify]; omega, ?_, h1.2.2.2⟩
    rcases hh0 with e' | e'
    · have := h1.2.2.1; rw [← e'] at this; simpa [Value.ownBlock] using this
    · simp [Value.ownBlock]; omega
  · refine .inr ?_
    intro e
    exact (hlk h0 (by rw [← e]; rfl)).1 rfl
  · exact (show Below n W3 W5 from ⟨hg.os, hg.tape, hg.output, hg.size, fun k hk => hg.block k (by omega) (hkb k (by omega))⟩).setCell (p := ⟨n + 3, 2, none⟩) (by show n ≤ n + 3; omega) _
end
theorem infoS : (Tryd.prog.info? 9).map (fun i => (i.zero, i.size, i.bytes)) = some (some (.string ⟨#[]⟩), 1, 16) := by kernel_rfl
end Go.Proofs.YtmjooghfghmngaaDoor
