/- Layer sector, the document's disk: reads, writes, barriers. -/
import Derived.Test.YtngfffbnofejmaaSRef
namespace Go.Proofs.Ytngfffbnofejmaa
open Go.RowKit Go.Lib Go.ChangeMaps Go.MapKept

theorem lastW_drop {l : List Wr} {k i : Nat} (hk : k < l.length) : lastW (l.drop k) i = (lastW (l.drop (k + 1)) i).or (if (l[k]).1 = i then some (l[k]).2 else none) := by
  rw [List.drop_eq_getElem_cons hk, lastW_cons]
theorem lastW_split {l : List Wr} {k i : Nat} (h : lastW (l.drop k) i = none) : lastW l i = lastW (l.take k) i := by
  have h2 := lastW_append (l.take k) (l.drop k) i
  rw [List.take_append_drop, h, Option.none_or] at h2
  exact h2
set_option maxHeartbeats 2000000 in
theorem Now_any {W : World} {T : Nat → Prop} {st : DS} {g : Nat} (h : Rk W T st g) (hn : st.log.length ≤ 100000) (i : Nat) :
    Calls Try.prog 20 #[.pointer (some ⟨g, 0, none⟩), .int .i64 (i : Nat)] W fun e w' => ∃ v, e = .returned v ∧ BRow W v (nowL st.log i) w' := by
  obtain ⟨v, U, h⟩ := h
  have hlen : U.length = st.log.length := by rw [← h.log, List.length_map]
  have hle : U.length ≤ 100000 := by omega
  obtain ⟨A, c, rfl⟩ := h.row.shape
  have HH := Lib.hid h
  have HL := Lib.hid (show ∀ k (hk : k < U.length), ∃ h2 : k < st.log.length, st.log[k] = WV.w U[k] from fun k hk => ⟨by omega, by
    have := List.getElem_map WV.w (l := U) (i := k) (h := by rw [List.length_map]; exact hk)
    rw [← this]
    congr 1
    exact h.log.symm⟩)
  have HLN := Lib.hid hlen
  have c1 := h.c1
  have w0 := wrap_in (n := (U.length : Int) - 1) (by omega) (by omega)
  clear h hn hlen
  go_enter Try.func20, Try.ntmps20
  go_wp2_with fail
  go_loopg [5] U.length (fun m s wr => ∃ k : Nat, s = .int .i64 ((k : Int) - 1) ∧ k ≤ U.length ∧ m = k ∧ wr = W ∧ Hid (lastW (st.log.drop k) i = none))
  case atStart => exact ⟨U.length, by first | rfl | trivial, Nat.le_refl _, rfl, rfl, Lib.hid (by rw [HLN.out, List.drop_length]; rfl)⟩
  case round =>
    obtain ⟨k, rfl, hk, hm, hw, HR⟩ := hrel
    have hw := hw.symm
    subst hw
    have hm := hm.symm
    subst hm
    cases k with
    | zero =>
      have HE := Lib.hid (show nowL st.log i = List.replicate 512 0 by
        have h1 := HR.out
        rw [List.drop_zero] at h1
        unfold nowL
        rw [h1]; rfl)
      obtain ⟨hmk, hrow⟩ := made_bytes W 512 (by decide)
      have hmk' : (Instr.makeSlice 43 (.int .i64 512) (.int .i64 512)).run Try.prog W = .ok (.slice (some ⟨W.heap.size, 0, none⟩) 512 512) (W.alloc (.cells (madeCells #[.int .u8 0] 512) 5)) := hmk
      have HRW := Lib.hid hrow
      have hz : ((0 : Nat) : Int) - 1 = -1 := rfl
      clear hmk hrow
      go_wp2_with fail
      go_ret
      exact ⟨_, rfl, by rw [HE.out]; exact HRW.out⟩
    | succ j =>
      have hj : j < U.length := by omega
      have hz : ((j + 1 : Nat) : Int) - 1 = (j : Int) := by omega
      have hl0 : (0 : Int) ≤ (j : Int) := by omega
      have hl1 : (j : Int) < (U.length : Int) := by omega
      have w1 := wrap_in (n := (j : Int) - 1) (by omega) (by omega)
      rw [hz]
      obtain ⟨b, c', ev, k0, k1⟩ := HH.out.row.get hj
      injection ev with e1 e2 e3
      subst e1
      subst e3
      obtain ⟨h2, hw2⟩ := HL.out j hj
      have HD := Lib.hid (lastW_drop (i := i) h2)
      rw [hw2, HR.out, Option.none_or] at HD
      have HX := Lib.hid (HH.out.row.sv _ (List.getElem_mem hj))
      have HS := Lib.hid (lastW_split (l := st.log) (k := j + 1) (i := i) HR.out)
      rw [List.take_add_one, List.getElem?_eq_getElem h2, hw2] at HS
      clear hw2
      generalize U[j] = x at *
      obtain ⟨xi, xA, xc, xb⟩ := x
      have hxl : xb.length = 512 := HX.out.2.1
      replace k1 : W.cell? ⟨b, j * 2 + 1, none⟩ = some (.slice xA 512 xc) := by rw [k1, ← hxl]; rfl
      have HXL := Lib.hid hxl
      clear hxl
      by_cases hi : xi = i
      · have hi2 : (xi : Int) = (i : Int) := by omega
        have HE := Lib.hid (show nowL st.log i = xb by
          unfold nowL
          rw [HS.out, Option.toList_some, lastW_append, lastW_one]
          unfold WV.w
          rw [if_pos hi]; rfl)
        obtain ⟨ad, ea, hba⟩ := HX.out.cells
        dsimp only at ea hba
        subst ea
        have HBA := Lib.hid (bytes_on (W' := W.alloc (Obj.cells #[] 5 (0, 0))) hba (grew_alloc (World.grownBy.refl W none) _) (fun _ _ => by simp))
        rw [HXL.out] at HBA
        have hbe := Below.alloc (Below.refl W.heap.size W) (Nat.le_refl _) (Obj.cells #[] 5 (0, 0))
        have ka := (hbe.cell (p := ⟨g, 1, none⟩) (blk_lt HH.out.blk)).trans c1
        have kb := (hbe.cell (p := ⟨b, j * 2 + 1, none⟩) (by obtain ⟨cur, hh⟩ := HH.out.row.blk rfl; exact blk_lt hh)).trans k1
        clear hbe
        clear hba hi
        have hq : xb.length = 512 := HXL.out
        go_wp2_with (at_builtin; go_must (refine append_by (BRow.made W W (Below.refl _ _)) xb (some ad) xc (hq ▸ HBA.out) (fun e => by cases e) (by simp; omega) rfl _ _ rfl rfl (by rw [hq]; rfl) ?_; rintro v8 w8 HR8; rw [List.nil_append] at HR8; have HRR := Lib.hid HR8; clear HR8))
        go_ret
        exact ⟨_, rfl, by rw [HE.out]; exact HRR.out⟩
      · have hi2 : ¬ (xi : Int) = (i : Int) := by omega
        have HN := Lib.hid (show lastW (st.log.drop j) i = none by
          rw [HD.out]
          unfold WV.w
          exact if_neg hi)
        clear hi
        go_wp2_with fail
        go_roundg j
        case measure => omega
        case rel => exact ⟨j, by first | rfl | trivial | go_num, by omega, rfl, rfl, HN⟩
end Go.Proofs.Ytngfffbnofejmaa
