/- Layer sector: limits, new disks, writes, barriers, crashes. -/
import Derived.Test.YtfjiceoagenfnaaDoorSDsk
set_option maxRecDepth 20000
namespace Go.Proofs.YtfjiceoagenfnaaDoor
open Go.RowKit Go.Lib Go.ChangeMaps Go.MapKept

set_option maxHeartbeats 1000000 in
theorem Limit_any {W : World} {T : Nat → Prop} {st : DS} {g : Nat} (h : Dk W T st g) (n : Int) (hn : n ≤ 9223372036854775807) :
    Calls Tryd.prog 16 #[.pointer (some ⟨g, 0, none⟩), .int .i64 n] W fun e w' => e = .returned (.int .i64 (limE n)) ∧ DkTo W w' T (limS st n) g := by
  have HD := Lib.hid h
  by_cases h0 : n < 0
  · have HP := Lib.hid (show limE n = 1 ∧ limS st n = st from ⟨if_pos h0, if_pos h0⟩)
    go_enter Tryd.func16, Tryd.ntmps16
    go_wp2_with fail
    go_ret
    rw [HP.out.1, HP.out.2]
    exact ⟨rfl, Fr.refl _ _, T, Ext.refl _ _, HD.out⟩
  · obtain ⟨ms, ml, v, S, L, U, h⟩ := h
    obtain ⟨k, rfl⟩ : ∃ k : Nat, n = k := ⟨n.toNat, by omega⟩
    have f1 := blk_frozen h.blk 1
    have k1 := h.c1
    have b1 := blk_set h.blk 1 (.int .i64 (k : Nat))
    simp only [List.setIfInBounds_toArray, List.set_cons_succ, List.set_cons_zero] at b1
    have B1 := Lib.hid b1
    have HH := Lib.hid h
    have HP := Lib.hid (show limE (k : Int) = 0 ∧ limS st (k : Int) = { st with left := k } from ⟨if_neg h0, if_neg h0⟩)
    have HN := Lib.hid hn
    clear h b1 hn
    go_enter Tryd.func16, Tryd.ntmps16
    go_wp2_with fail
    go_ret
    rw [HP.out.1, HP.out.2]
    have hf : Fr (· = g) W (W.setCell ⟨g, 1, none⟩ (.int .i64 (k : Nat))) := Fr.set rfl
    refine ⟨rfl, hf.mono (fun j _ e => Dk.nb ⟨ms, ml, v, S, L, U, HH.out⟩ j e), T, Ext.refl _ _, ms, ml, v, S, L, U, HH.out.set hf (by simp [World.setCell]) ?_ B1.out rfl rfl⟩
    obtain ⟨a, b, c, d⟩ := HH.out.ok
    exact ⟨a, b, HN.out, d⟩
theorem Limit_nil (W : World) (n : Int) :
    Calls Tryd.prog 16 #[.pointer none, .int .i64 n] W fun e w' => e = .returned (.int .i64 1) ∧ w' = W := by
  go_enter Tryd.func16, Tryd.ntmps16
  go_wp2_with fail
  go_ret
  exact ⟨rfl, rfl⟩
theorem al_size (W : World) (o : Obj) : (W.alloc o).heap.size = W.heap.size + 1 := by simp
/-- Where a new disk stands: all of it in new blocks. -/
def DkNew (W w' : World) (st : DS) (e : Ending) (f : Value → Value) : Prop := ∃ g T, e = .returned (f (.pointer (some ⟨g, 0, none⟩))) ∧ Below W.heap.size W w' ∧ (∀ k, T k → W.heap.size ≤ k) ∧ Dk w' T st g
set_option maxHeartbeats 1000000 in
theorem disk_any (W : World) (o : Bool) (l n : Nat) (hl : (l : Int) ≤ 9223372036854775807) (hn : n ≤ 65536) :
    Calls Tryd.prog 23 #[.agg #[.bool o, .int .i64 (l : Nat)], .int .i64 (n : Nat)] W fun e w' => DkNew W w' ⟨n, [], 0, l, o⟩ e id := by
  have hmm := @run_makeMap Tryd.prog
  have HL := Lib.hid hl
  have HN := Lib.hid hn
  clear hl hn
  go_enter Tryd.func23, Tryd.ntmps23
  go_wp2_with fail
  go_ret
  clear hmm
  obtain ⟨W1, hW1⟩ : ∃ u, u = W.alloc (Obj.cells #[.bool o, .int .i64 (l : Nat)] 62 (0, 0)) := ⟨_, rfl⟩
  obtain ⟨W2, hW2⟩ : ∃ u, u = W1.alloc (.map #[] 0) := ⟨_, rfl⟩
  obtain ⟨W3, hW3⟩ : ∃ u, u = W2.alloc (.map #[] 0) := ⟨_, rfl⟩
  have s1 : W1.heap.size = W.heap.size + 1 := by rw [hW1, al_size]
  have s2 : W2.heap.size = W.heap.size + 1 + 1 := by rw [hW2, al_size, s1]
  have s3 : W3.heap.size = W.heap.size + 1 + 1 + 1 := by rw [hW3, al_size, s2]
  have h1 : Below W.heap.size W W1 := hW1 ▸ (Below.refl _ W).alloc (Nat.le_refl _) _
  have h2 : Below W1.heap.size W1 W2 := hW2 ▸ (Below.refl _ W1).alloc (Nat.le_refl _) _
  have h3 : Below W2.heap.size W2 W3 := hW3 ▸ (Below.refl _ W2).alloc (Nat.le_refl _) _
  have m2 : MapIs W2 (W.heap.size + 1) iv SV.v In64 ([] : List (Int × SV)) := s1 ▸ hW2 ▸ MapIs.made W1
  have m3 : MapIs W3 (W.heap.size + 1 + 1) iv SV.v In64 ([] : List (Int × SV)) := s2 ▸ hW3 ▸ MapIs.made W2
  rw [← hW1, ← hW2, ← hW3]
  have h4 : ∀ cs, Below W3.heap.size W3 (W3.alloc (Obj.cells cs 87 (0, 0))) := fun cs => (Below.refl _ W3).alloc (Nat.le_refl _) _
  have hn4 := fun cs => heap_alloc_new W3 (Obj.cells cs 87 (0, 0))
  rw [s3] at hn4
  refine ⟨W.heap.size + 1 + 1 + 1, fun k => W.heap.size ≤ k ∧ k < W.heap.size + 1 + 1 + 1 + 1, rfl, ((h1.trans (h2.mono (by omega))).trans (h3.mono (by omega))).trans ((h4 _).mono (by omega)), fun k e => e.1, W.heap.size + 1, W.heap.size + 1 + 1, .slice none 0 0, [], [], [], ?_⟩
  exact { ok := ⟨Nat.le_refl _, fun w hw => (by cases hw), HL.out, HN.out⟩, ter := fun k e => by rw [al_size, s3]; exact e.2, here := ⟨by omega, by omega⟩, blk := hn4 _, ne := by omega,
          ms := { map := (m2.on h3 (by omega)).on (h4 _) (by omega), ter := ⟨by omega, by omega⟩, sv := fun p hp => (by cases hp) },
          ml := { map := m3.on (h4 _) (by omega), ter := ⟨by omega, by omega⟩, sv := fun p hp => (by cases hp) },
          row := { row := World.ownsRow_nil _ _ _ _, ter := fun k e => (by cases e), sv := fun x hx => (by cases hx) },
          un := rfl, sure := Holds.nil (fun _ => rfl), late := Holds.nil (fun _ => rfl) }
/-- What New answers. -/
def newOk (n : Int) : Prop := 1 ≤ n ∧ n ≤ 65536
theorem New_bad (W : World) (n : Int) (h : ¬ newOk n) :
    Calls Tryd.prog 7 #[.int .i64 n] W fun e w' => e = .returned (.tuple #[.pointer none, .int .i64 1]) ∧ w' = W := by
  by_cases h1 : n < 1
  · clear h
    go_enter Tryd.func7, Tryd.ntmps7
    go_wp2_with fail
    go_ret2
    exact ⟨rfl, rfl⟩
  · have h2 : 65536 < n := by unfold newOk at h; omega
    clear h
    go_enter Tryd.func7, Tryd.ntmps7
    go_wp2_with fail
    go_ret2
    exact ⟨rfl, rfl⟩
theorem New_good (W : World) (n : Nat) (h : newOk n) :
    Calls Tryd.prog 7 #[.int .i64 (n : Nat)] W fun e w' => DkNew W w' ⟨n, [], 0, 0, false⟩ e (fun v => .tuple #[v, .int .i64 0]) := by
  have h1 : ¬ (n : Int) < 1 := by unfold newOk at h; omega
  have h2 : ¬ 65536 < (n : Int) := by unfold newOk at h; omega
  have HD := Lib.hid (disk_any W false 0 n (by decide) (by omega))
  clear h
  go_enter Tryd.func7, Tryd.ntmps7
  go_wp2_with (go_at_call 23; refine HD.out.mono ?_; rintro e' w' ⟨g, T, rfl, hb, ht, hd⟩; have HB := Lib.hid hb; have HT := Lib.hid ht; have HK := Lib.hid hd; clear hb ht hd)
  go_ret2
  exact ⟨g, T, rfl, HB.out, HT.out, HK.out⟩
theorem burn_eq {st : DS} (h : (burn st).out = false) : st.out = false := by
  unfold burn at h
  split at h
  · exact h
  · simp at h; exact h.1
end Go.Proofs.YtfjiceoagenfnaaDoor
