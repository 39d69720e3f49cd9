/- Layer sector: new disks, limits, reads, writes, barriers, crashes. -/
import Derived.Test.YtfjiceoagenfnaaDoorSOps
set_option maxRecDepth 20000
namespace Go.Proofs.YtfjiceoagenfnaaDoor
open Go.RowKit Go.Lib Go.ChangeMaps Go.MapKept

/-- What is written of a list in memory. -/
theorem LogAt.get {W : World} {T : Nat → Prop} {v : Value} {l : List WV} (h : LogAt W T v l) {k : Nat} (hk : k < l.length) : ∃ b c, v = .slice (some ⟨b, 0, none⟩) l.length c ∧ W.cell? ⟨b, k * 2, none⟩ = some (.int .i64 (l[k].1 : Nat)) ∧ W.cell? ⟨b, k * 2 + 1, none⟩ = some l[k].2.v := by
  have hc := fun g (hg : v.ownBlock = some g) => h.row.cells hg
  obtain ⟨-, ⟨rfl, h0⟩ | ⟨g, cap, cur, rfl, -, hg, -⟩⟩ := h.row
  · omega
  · have g0 := flat_get kindW.len l k l[k] 0 (List.getElem?_eq_getElem hk) (by decide)
    have g1 := flat_get kindW.len l k l[k] 1 (List.getElem?_eq_getElem hk) (by decide)
    have c0 := hc g rfl _ _ g0
    have c1 := hc g rfl _ _ g1
    rw [add_off] at c0 c1
    exact ⟨g, cap, rfl, c0, c1⟩
/-- The writes that last, counted from k on. -/
def keepF (ls : Nat → Bool) : Nat → List Wr → List Wr
  | _, [] => []
  | k, w :: l => if ls k = true then w :: keepF ls (k + 1) l else keepF ls (k + 1) l
theorem keepF_push (ls : Nat → Bool) (w : Wr) : ∀ (l : List Wr) (k : Nat), keepF ls k (l ++ [w]) = keepF ls k l ++ if ls (k + l.length) = true then [w] else []
  | [], k => by simp [keepF]
  | x :: l, k => by
    rw [List.cons_append, keepF, keepF, keepF_push ls w l (k + 1), List.length_cons, show k + 1 + l.length = k + (l.length + 1) by omega]
    split <;> simp
theorem keepF_all (l : List Wr) : ∀ k, keepF (fun _ => true) k l = l := by
  induction l with
  | nil => intro k; rfl
  | cons x l ih => intro k; simp [keepF, ih]
theorem keepF_mem (ls : Nat → Bool) : ∀ (l : List Wr) (k : Nat) {w : Wr}, w ∈ keepF ls k l → w ∈ l
  | [], _, _, h => by cases h
  | x :: l, k, w, h => by
    rw [keepF] at h
    split at h
    · rcases List.mem_cons.1 h with rfl | h
      · exact List.mem_cons_self ..
      · exact List.mem_cons_of_mem _ (keepF_mem ls l _ h)
    · exact List.mem_cons_of_mem _ (keepF_mem ls l _ h)
theorem keepF_len (ls : Nat → Bool) : ∀ (l : List Wr) (k : Nat), (keepF ls k l).length ≤ l.length
  | [], _ => Nat.le_refl _
  | x :: l, k => by
    have := keepF_len ls l (k + 1)
    rw [keepF]
    split <;> simp only [List.length_cons] <;> omega
theorem keepM_eq (m : Nat) : ∀ (l : List Wr) (k : Nat), keepM m k l = keepF (fun k => m.testBit (k % 64)) k l
  | [], _ => rfl
  | x :: l, k => by
    rw [keepM, keepF, keepM_eq m l (k + 1)]
/-- What settling leaves: all that lasts is sure. -/
def setS (st : DS) (ls : Nat → Bool) : DS := { st with log := st.sure ++ keepF ls 0 st.un, n := (st.sure ++ keepF ls 0 st.un).length }
theorem setS_ok {st : DS} (h : st.ok) (ls : Nat → Bool) : (setS st ls).ok := by
  obtain ⟨a, b, c, d⟩ := h
  refine ⟨Nat.le_refl _, fun w hw => b w ?_, c, d⟩
  rcases List.mem_append.1 hw with hw | hw
  · exact List.mem_of_mem_take hw
  · exact List.mem_of_mem_drop (keepF_mem ls _ _ hw)
theorem setS_un (st : DS) (ls : Nat → Bool) : (setS st ls).un = [] := List.drop_length
theorem setS_sure (st : DS) (ls : Nat → Bool) : (setS st ls).sure = st.sure ++ keepF ls 0 st.un := List.take_length
/-- What settling leaves in memory. -/
theorem DAt.settled {W wr W3 : World} {T : Nat → Prop} {st : DS} {g ms ml : Nat} {v : Value} {S L S' : List (Int × SV)} {U : List WV} (h : DAt W T st g ms ml v S L U) (ls : Nat → Bool) (hf : Fr (· = ms) W wr) (hm : MapIs wr ms iv SV.v In64 S') (hs : ∀ p ∈ S', SvAt W T p.2)
    (hh : Holds S' (lastW (setS st ls).sure)) (h3 : MapIs W3 ml iv SV.v In64 ([] : List (Int × SV))) (hg : (wr.setCell ⟨g, 5, none⟩ (.slice none 0 0)).grownBy W3 (some ml)) : DkTo W W3 T (setS st ls) g := by
  have f2 : Fr (· = g) wr (wr.setCell ⟨g, 5, none⟩ (.slice none 0 0)) := Fr.set rfl
  have f3 : Fr (· = ml) (wr.setCell ⟨g, 5, none⟩ (.slice none 0 0)) W3 := Fr.grew hg (fun k e => (Option.some.inj e).symm)
  have f13 : Fr (fun k => k = g ∨ k = ml ∨ k = ms) W W3 := ((hf.mono (G := fun k => k = g ∨ k = ml ∨ k = ms) (fun k _ e => .inr (.inr e))).trans f2 (fun k _ e => .inl e)).trans f3 (fun k _ e => .inr (.inl e))
  have hgm : ¬ g = ms := fun e => map_cells h.ms.map h.blk e.symm
  have hgl : ¬ g = ml := fun e => map_cells h.ml.map h.blk e.symm
  have hbg : wr.heap[g]? = _ := (hf.2 g (blk_lt h.blk) hgm).trans h.blk
  have hb2 := blk_set hbg 5 (.slice none 0 0)
  have hb3 := (f3.2 g (blk_lt hb2) hgl).trans hb2
  have hm3 : W3.heap[ms]? = wr.heap[ms]? := (f3.2 ms (Nat.lt_of_lt_of_le hm.lt f2.1.size) h.ne).trans (f2.2 ms hm.lt (fun e => hgm e.symm))
  have hnb : ∀ k, (k = g ∨ k = ml ∨ k = ms) → ¬ ByteB W k := fun k e => by
    rcases e with rfl | rfl | rfl
    · exact no_byte h.blk (by decide)
    · exact map_noByte h.ml.map
    · exact map_noByte h.ms.map
  refine ⟨f13.mono (fun k _ e => ⟨?_, hnb k e⟩), T, Ext.refl _ _, ms, ml, .slice none 0 0, S', [], [], ?_⟩
  · rcases e with rfl | rfl | rfl
    · exact h.here
    · exact h.ml.ter
    · exact h.ms.ter
  exact { ok := setS_ok h.ok ls, ter := h.ter.on f13.1.size, here := h.here, blk := hb3, ne := h.ne,
          ms := { map := hm.at hm3, ter := h.ms.ter, sv := fun p hp => (hs p hp).on (fun _ h => h) (fun k h1 h2 => f13.2 k (h.ter k h1) (fun e => hnb k e h2)) },
          ml := { map := h3, ter := h.ml.ter, sv := fun p hp => (by cases hp) },
          row := { row := World.ownsRow_nil _ _ _ _, ter := fun k e => (by cases e), sv := fun x hx => (by cases hx) },
          un := (setS_un st ls).symm, sure := hh, late := by rw [setS_un]; exact Holds.nil (fun _ => rfl) }
set_option maxHeartbeats 2000000 in
theorem settle_barrier {W : World} {T : Nat → Prop} {st : DS} {g : Nat} (h : Dk W T st g) (hn : st.log.length ≤ 100000) (ls : Nat → Bool)
    (hcall : ∀ W' (k : Nat), Fr T W W' → k ≤ 100000 → Calls Tryd.prog 63 #[.int .i64 k] W' fun e w' => e = .returned (.bool (ls k)) ∧ w' = W') :
    Calls Tryd.prog 41 #[.pointer (some ⟨g, 0, none⟩), .func (.func 63) #[] #[]] W fun e w' => e = .returned (.tuple #[]) ∧ DkTo W w' T (setS st ls) g := by
  obtain ⟨ms, ml, v, S, L, U, h⟩ := h
  have hlen : U.length = st.un.length := by rw [← h.un, List.length_map]
  have hle : U.length ≤ 100000 := by
    rw [hlen]; unfold DS.un
    rw [List.length_drop]; omega
  obtain ⟨A, c, rfl⟩ := h.row.shape
  have HC := Lib.hid hcall
  have HH := Lib.hid h
  have HLN := Lib.hid hlen
  have c5 := h.c5
  clear h hcall hn hlen
  go_enter Tryd.func41, Tryd.ntmps41
  go_wp2_with fail
  go_loopg [11] U.length (fun m i wr => ∃ (k : Nat) (S' : List (Int × SV)), i = .int .i64 k ∧ k ≤ U.length ∧ m = U.length - k ∧ Hid (Fr (· = ms) W wr ∧ MapIs wr ms iv SV.v In64 S' ∧ (∀ p ∈ S', SvAt W T p.2) ∧ Holds S' (lastW (st.sure ++ keepF ls 0 (st.un.take k)))))
  case atStart =>
    refine ⟨0, S, rfl, Nat.zero_le _, rfl, Lib.hid ⟨Fr.refl _ _, HH.out.ms.map, HH.out.ms.sv, ?_⟩⟩
    rw [List.take_zero, keepF, List.append_nil]
    exact HH.out.sure
  case round =>
    obtain ⟨k, S', rfl, hk, rfl, HR⟩ := hrel
    by_cases hlt : k < U.length
    · have hl1 : (k : Int) < (U.length : Int) := by omega
      have hl0 : (0 : Int) ≤ (k : Int) := by omega
      obtain ⟨b, c', ev, k0, k1⟩ := HH.out.row.get hlt
      injection ev with e1 e2 e3
      subst e1
      subst e3
      have hbn : ¬ b = ms := HH.out.row.neMap rfl HH.out.ms.map
      have hb0 : b < W.heap.size := by
        obtain ⟨cur, hh⟩ := HH.out.row.blk rfl
        exact blk_lt hh
      have k0 := (HR.out.1.cell (p := ⟨b, k * 2, none⟩) hb0 hbn).trans k0
      have k1 := (HR.out.1.cell (p := ⟨b, k * 2 + 1, none⟩) hb0 hbn).trans k1
      have HW := Lib.hid (show st.un.take (k + 1) = st.un.take k ++ [WV.w U[k]] by
        rw [← HH.out.un, List.take_add_one, List.getElem?_map, List.getElem?_eq_getElem hlt]; rfl)
      have HX := Lib.hid (HH.out.row.sv _ (List.getElem_mem hlt))
      have HXI := Lib.hid (show In64 (U[k].1 : Int) by
        have h1 : WV.w U[k] ∈ st.un := by rw [← HH.out.un]; exact List.mem_map_of_mem (List.getElem_mem hlt)
        have h2 := (HH.out.ok.2.1 _ (List.mem_of_mem_drop h1)).1
        have h3 := HH.out.ok.2.2.2
        unfold WV.w at h2
        unfold In64
        omega)
      generalize U[k] = x at *
      obtain ⟨xi, xA, xc, xb⟩ := x
      obtain ⟨q, hq⟩ : ∃ q, Hid (xb.length = q) := ⟨_, Lib.hid rfl⟩
      replace k1 : wr.cell? ⟨b, k * 2 + 1, none⟩ = some (.slice xA q xc) := by rw [k1, ← hq.out]; rfl
      have HKC := Lib.hid (HC.out)
      have HB := Lib.hid (Below.alloc (Below.refl wr.heap.size wr) (Nat.le_refl _) (Obj.cells #[.int .i64 (xi : Nat), .slice xA q xc] 100 (0, 0)))
      have HBN := Lib.hid (heap_alloc_new wr (Obj.cells #[.int .i64 (xi : Nat), .slice xA q xc] 100 (0, 0)))
      have HK0 := Lib.hid k0
      have HKK := Lib.hid hk
      have HF1 : Hid (Fr T W (wr.alloc (Obj.cells #[.int .i64 (xi : Nat), .slice xA q xc] 100 (0, 0)))) := Lib.hid ((HR.out.1.mono (fun j _ e => by subst e; exact HH.out.ms.ter)).trans (Fr.of HB.out) (fun _ _ e => e))
      obtain ⟨lb, hlb⟩ : ∃ lb, Hid (ls k = lb) := ⟨_, Lib.hid rfl⟩
      have HCL := Lib.hid (HC.out _ k HF1.out (by omega))
      rw [hlb.out] at HCL
      obtain ⟨bb, hbb⟩ : ∃ bb, Hid (wr.heap.size = bb) := ⟨_, Lib.hid rfl⟩
      have HQ := Lib.hid (show xb.length = 512 from HX.out.2.1)
      have HRR := Lib.hid HR.out
      have HDK := Lib.hid (show ((⟨xA, xc, xb⟩ : SV).v = .slice xA q xc) by rw [← hq.out]; rfl)
      have HNX := Lib.hid (show keepF ls 0 (st.un.take (k + 1)) = keepF ls 0 (st.un.take k) ++ if lb = true then [WV.w (xi, ⟨xA, xc, xb⟩)] else [] by
        rw [HW.out, keepF_push, List.length_take, Nat.min_eq_left (by rw [← HLN.out]; omega), Nat.zero_add, hlb.out])
      cases lb
      · go_upto_region 3 with (fail)
        go_wp2_with (go_at_call 63; refine (HCL.out).mono ?_; rintro e' w' ⟨rfl, rfl⟩)
        go_roundg (U.length - (k + 1))
        case measure => have := HKK.out; omega
        case rel =>
          refine ⟨k + 1, S', by go_num, by omega, rfl, Lib.hid ⟨HRR.out.1.trans (Fr.of HB.out) (fun _ _ e => e), HRR.out.2.1.alloc _, HRR.out.2.2.1, ?_⟩⟩
          rw [HNX.out, if_neg (by decide), List.append_nil]
          exact HRR.out.2.2.2
      · go_upto_region 4 with (go_at_call 63; refine (HCL.out).mono ?_; rintro e' w' ⟨rfl, rfl⟩)
        obtain ⟨u, hu⟩ : ∃ u, (wr.alloc (Obj.cells #[.int .i64 (xi : Nat), .slice xA q xc] 100 (0, 0))).drew = u := ⟨_, rfl⟩
        have hmu : MapIs (wr.alloc (Obj.cells #[.int .i64 (xi : Nat), .slice xA q xc] 100 (0, 0))).drew ms iv SV.v In64 S' := (HRR.out.2.1.alloc _).drew
        have hbu : (wr.alloc (Obj.cells #[.int .i64 (xi : Nat), .slice xA q xc] 100 (0, 0))).drew.heap[wr.heap.size]? = _ := HBN.out
        have hfu : Fr (· = ms) W (wr.alloc (Obj.cells #[.int .i64 (xi : Nat), .slice xA q xc] 100 (0, 0))).drew := HRR.out.1.trans (Fr.of HB.out.drew) (fun _ _ e => e)
        have hszu : wr.heap.size ≤ (wr.alloc (Obj.cells #[.int .i64 (xi : Nat), .slice xA q xc] 100 (0, 0))).drew.heap.size := HB.out.size
        rw [hbb.out] at hbu ⊢
        rw [hu] at hmu hbu hfu hszu
        have HGN := Lib.hid (show ¬ g = ms from fun e => map_cells HH.out.ms.map HH.out.blk e.symm)
        have HBM := Lib.hid (show ¬ bb = ms from fun e => by have := HH.out.ms.map.lt; have := HRR.out.1.1.size; have := hbb.out; omega)
        have c3 : u.cell? ⟨g, 3, none⟩ = some (.map (some ms)) := (hfu.cell (blk_lt HH.out.blk) HGN.out).trans HH.out.c3
        have e0 : u.cell? ⟨bb, 0, none⟩ = some (.int .i64 (xi : Nat)) := blk_cell hbu 0
        have e1 : u.cell? ⟨bb, 1, none⟩ = some (.slice xA q xc) := blk_cell hbu 1
        have HS0 := Lib.hid (show u.cell? ⟨g, 3, none⟩ = some (.map (some ms)) ∧ u.cell? ⟨bb, 0, none⟩ = some (.int .i64 (xi : Nat)) ∧ u.cell? ⟨bb, 1, none⟩ = some (.slice xA q xc) from ⟨c3, e0, e1⟩)
        have HMU := Lib.hid hmu
        have HBU := Lib.hid (blk_lt hbu)
        have HFU := Lib.hid hfu
        clear hmu hbu hfu hszu c3 e0 e1
        refine wp_region_held_drew (S := fun W => W.cell? ⟨g, 3, none⟩ = some (.map (some ms)) ∧ W.cell? ⟨bb, 0, none⟩ = some (.int .i64 (xi : Nat)) ∧ W.cell? ⟨bb, 1, none⟩ = some (.slice xA q xc)) (by kernel_rfl) ?_ (fun hHeld => ?_)
        · (try dsimp only)
          rw [hu]
          exact HS0.out
        rw [hu] at hHeld ⊢
        clear hu
        refine takeSome (i := 0) (v := ?_) (by decide +kernel) rfl (by rfl) (by decide +kernel) (by decide +kernel) (fun _ _ _ h => h) (by assumption) ?_ ?_
        rotate_left
        focus (intro w0 hSw; (try dsimp only at hSw); go_simp; (try (with_reducible rfl)); done)
        (try simp only [Act.put, List.getElem_toArray, List.getElem_cons_zero, List.setIfInBounds_toArray, List.set_cons_zero, List.set_cons_succ])
        refine takeSome (i := 1) (v := ?_) (by decide +kernel) rfl (by rfl) (by decide +kernel) (by decide +kernel) (fun _ _ _ h => h) (by assumption) ?_ ?_
        rotate_left
        focus (intro w0 hSw; (try dsimp only at hSw); go_simp; (try (with_reducible rfl)); done)
        (try simp only [Act.put, List.getElem_toArray, List.getElem_cons_zero, List.getElem_cons_succ, List.setIfInBounds_toArray, List.set_cons_zero, List.set_cons_succ])
        refine takeSome (i := 2) (v := ?_) (by decide +kernel) rfl (by rfl) (by decide +kernel) (by decide +kernel) (fun _ _ _ h => h) (by assumption) ?_ ?_
        rotate_left
        focus (intro w0 hSw; (try dsimp only at hSw); go_simp; (try (with_reducible rfl)); done)
        (try simp only [Act.put, List.getElem_toArray, List.getElem_cons_zero, List.getElem_cons_succ, List.setIfInBounds_toArray, List.set_cons_zero, List.set_cons_succ])
        refine takeSome (i := 3) (v := ?_) (by decide +kernel) rfl (by rfl) (by decide +kernel) (by decide +kernel) (fun _ _ _ h => h) (by assumption) ?_ ?_
        rotate_left
        focus (intro w0 hSw; (try dsimp only at hSw); go_simp; (try (with_reducible rfl)); done)
        (try simp only [Act.put, List.getElem_toArray, List.getElem_cons_zero, List.getElem_cons_succ, List.setIfInBounds_toArray, List.set_cons_zero, List.set_cons_succ])
        refine takeSome (i := 4) (v := ?_) (by decide +kernel) rfl (by rfl) (by decide +kernel) (by decide +kernel) (fun _ _ _ h => h) (by assumption) ?_ ?_
        rotate_left
        focus (intro w0 hSw; (try dsimp only at hSw); go_simp; (try (with_reducible rfl)); done)
        (try simp only [Act.put, List.getElem_toArray, List.getElem_cons_zero, List.getElem_cons_succ, List.setIfInBounds_toArray, List.set_cons_zero, List.set_cons_succ])
        refine takeSome (i := 5) (v := ?_) (by decide +kernel) rfl (by rfl) (by decide +kernel) (by decide +kernel) (fun _ _ _ h => h) (by assumption) ?_ ?_
        rotate_left
        focus (intro w0 hSw; (try dsimp only at hSw); go_simp; (try (with_reducible rfl)); done)
        (try simp only [Act.put, List.getElem_toArray, List.getElem_cons_zero, List.getElem_cons_succ, List.setIfInBounds_toArray, List.set_cons_zero, List.set_cons_succ])
        refine takeSome (i := 6) (v := ?_) (by decide +kernel) rfl (by rfl) (by decide +kernel) (by decide +kernel) (fun _ _ _ h => h) (by assumption) ?_ ?_
        rotate_left
        focus (intro w0 hSw; (try dsimp only at hSw); go_simp; (try (with_reducible rfl)); done)
        (try simp only [Act.put, List.getElem_toArray, List.getElem_cons_zero, List.getElem_cons_succ, List.setIfInBounds_toArray, List.set_cons_zero, List.set_cons_succ])
        refine takeSome (i := 7) (v := ?_) (by decide +kernel) rfl (by rfl) (by decide +kernel) (by decide +kernel) (fun _ _ _ h => h) (by assumption) ?_ ?_
        rotate_left
        focus (intro w0 hSw; (try dsimp only at hSw); go_simp; (try (with_reducible rfl)); done)
        (try simp only [Act.put, List.getElem_toArray, List.getElem_cons_zero, List.getElem_cons_succ, List.setIfInBounds_toArray, List.set_cons_zero, List.set_cons_succ])
        refine wpAnyH_ready (rs := [8]) (by decide +kernel) (by simp) ?_
        refine AllReadyH.cons rfl (fun K hK => ?_) AllReadyH.nil
        refine step_putS (k := (xi : Int)) (y := ⟨xA, xc, xb⟩) (by rfl) _ _ _ rfl (by rfl) HMU.out HXI.out (by rfl) (HDK.out.symm) ?_; intro W2 L2 hm2 hp2 hg2 hs2; have hf2 : Fr (· = ms) u W2 := Fr.grew hg2 (fun k e => (Option.some.inj e).symm)
        refine hK.out _ _ ?_ (fun hHeld => ?_)
        focus ((try dsimp only); exact ⟨(hf2.cell (Nat.lt_of_lt_of_le (blk_lt HH.out.blk) HFU.out.1.size) HGN.out).trans HS0.out.1, (hf2.cell HBU.out HBM.out).trans HS0.out.2.1, (hf2.cell HBU.out HBM.out).trans HS0.out.2.2⟩; done)
        clear hK K
        (try simp only [Act.put, List.getElem_toArray, List.getElem_cons_zero, List.getElem_cons_succ])
        refine wpAnyH_done (by decide +kernel) ?_ _
        clear hHeld
        have HM2 := Lib.hid hm2
        have HP2 := Lib.hid hp2
        have HF2 := Lib.hid hf2
        clear hm2 hp2 hf2 hg2 hs2
        go_wp2_with fail
        go_roundg (U.length - (k + 1))
        case measure => have := HKK.out; omega
        case rel =>
          refine ⟨k + 1, L2, by go_num, by omega, rfl, Lib.hid ⟨HFU.out.trans HF2.out (fun _ _ e => e), HM2.out, fun p hp => ?_, ?_⟩⟩
          · rcases (HP2.out p).1 hp with rfl | ⟨h1, -⟩
            · exact HX.out
            · exact HRR.out.2.2.1 p h1
          · rw [HNX.out, if_pos trivial, ← List.append_assoc]
            exact HRR.out.2.2.2.put HP2.out (fun j => lastW_push _ _ _)
    · obtain rfl : k = U.length := by omega
      have HR1 := Lib.hid HR.out
      have hgn : ¬ g = ms := fun e => map_cells HH.out.ms.map HH.out.blk e.symm
      have hgm : ¬ ml = ms := fun e => HH.out.ne e.symm
      have hbg : wr.heap[g]? = _ := (HR.out.1.2 g (blk_lt HH.out.blk) hgn).trans HH.out.blk
      have f5 := blk_frozen hbg 5
      have k5 : wr.cell? ⟨g, 5, none⟩ = some (.slice A U.length c) := blk_cell hbg 5
      have b1 := blk_set hbg 5 (.slice none 0 0)
      simp only [List.setIfInBounds_toArray, List.set_cons_succ, List.set_cons_zero] at b1
      have k4 : (wr.setCell ⟨g, 5, none⟩ (.slice none 0 0)).cell? ⟨g, 4, none⟩ = some (.map (some ml)) := blk_cell b1 4
      have hml : MapIs (wr.setCell ⟨g, 5, none⟩ (.slice none 0 0)) ml iv SV.v In64 L := (HH.out.ml.map.at (HR.out.1.2 ml HH.out.ml.map.lt hgm)).setCell (map_cells HH.out.ml.map HH.out.blk) _
      obtain ⟨W3, hcl, hm3, hg3, hs3⟩ := hml.cleared (t := 84) Tryd.underlying84 0
      have hcl' : ∀ ty, (Builtin.clear_ #[84] ty #[.map (some ml)]).run Tryd.prog (wr.setCell ⟨g, 5, none⟩ (.slice none 0 0)) = .ok (.tuple #[]) W3 := fun ty => by rw [← hcl]; rfl
      have B1 := Lib.hid b1
      have HM3 := Lib.hid hm3
      have HG3 := Lib.hid hg3
      have HML := Lib.hid hml
      clear hcl hm3 hg3 hs3 hml b1 hbg
      go_wp2_with fail
      go_end0
      refine ⟨rfl, ?_⟩
      have hu : st.un.take U.length = st.un := by rw [HLN.out]; exact List.take_length
      have h4 := HR1.out.2.2.2
      rw [hu, ← setS_sure] at h4
      exact HH.out.settled ls HR1.out.1 HR1.out.2.1 HR1.out.2.2.1 h4 HM3.out HG3.out
set_option maxHeartbeats 2000000 in
theorem settle_crash {W : World} {T : Nat → Prop} {st : DS} {g : Nat} (h : Dk W T st g) (hn : st.log.length ≤ 100000) (bx : Nat) (ls : Nat → Bool)
    (hcall : ∀ W' (k : Nat), Fr T W W' → k ≤ 100000 → Calls Tryd.prog 42 #[.int .i64 k, .pointer (some ⟨bx, 0, none⟩)] W' fun e w' => e = .returned (.bool (ls k)) ∧ w' = W') :
    Calls Tryd.prog 41 #[.pointer (some ⟨g, 0, none⟩), .func (.func 42) #[] #[.pointer (some ⟨bx, 0, none⟩)]] W fun e w' => e = .returned (.tuple #[]) ∧ DkTo W w' T (setS st ls) g := by
  obtain ⟨ms, ml, v, S, L, U, h⟩ := h
  have hlen : U.length = st.un.length := by rw [← h.un, List.length_map]
  have hle : U.length ≤ 100000 := by
    rw [hlen]; unfold DS.un
    rw [List.length_drop]; omega
  obtain ⟨A, c, rfl⟩ := h.row.shape
  have HC := Lib.hid hcall
  have HH := Lib.hid h
  have HLN := Lib.hid hlen
  have c5 := h.c5
  clear h hcall hn hlen
  go_enter Tryd.func41, Tryd.ntmps41
  go_wp2_with fail
  go_loopg [11] U.length (fun m i wr => ∃ (k : Nat) (S' : List (Int × SV)), i = .int .i64 k ∧ k ≤ U.length ∧ m = U.length - k ∧ Hid (Fr (· = ms) W wr ∧ MapIs wr ms iv SV.v In64 S' ∧ (∀ p ∈ S', SvAt W T p.2) ∧ Holds S' (lastW (st.sure ++ keepF ls 0 (st.un.take k)))))
  case atStart =>
    refine ⟨0, S, rfl, Nat.zero_le _, rfl, Lib.hid ⟨Fr.refl _ _, HH.out.ms.map, HH.out.ms.sv, ?_⟩⟩
    rw [List.take_zero, keepF, List.append_nil]
    exact HH.out.sure
  case round =>
    obtain ⟨k, S', rfl, hk, rfl, HR⟩ := hrel
    by_cases hlt : k < U.length
    · have hl1 : (k : Int) < (U.length : Int) := by omega
      have hl0 : (0 : Int) ≤ (k : Int) := by omega
      obtain ⟨b, c', ev, k0, k1⟩ := HH.out.row.get hlt
      injection ev with e1 e2 e3
      subst e1
      subst e3
      have hbn : ¬ b = ms := HH.out.row.neMap rfl HH.out.ms.map
      have hb0 : b < W.heap.size := by
        obtain ⟨cur, hh⟩ := HH.out.row.blk rfl
        exact blk_lt hh
      have k0 := (HR.out.1.cell (p := ⟨b, k * 2, none⟩) hb0 hbn).trans k0
      have k1 := (HR.out.1.cell (p := ⟨b, k * 2 + 1, none⟩) hb0 hbn).trans k1
      have HW := Lib.hid (show st.un.take (k + 1) = st.un.take k ++ [WV.w U[k]] by
        rw [← HH.out.un, List.take_add_one, List.getElem?_map, List.getElem?_eq_getElem hlt]; rfl)
      have HX := Lib.hid (HH.out.row.sv _ (List.getElem_mem hlt))
      have HXI := Lib.hid (show In64 (U[k].1 : Int) by
        have h1 : WV.w U[k] ∈ st.un := by rw [← HH.out.un]; exact List.mem_map_of_mem (List.getElem_mem hlt)
        have h2 := (HH.out.ok.2.1 _ (List.mem_of_mem_drop h1)).1
        have h3 := HH.out.ok.2.2.2
        unfold WV.w at h2
        unfold In64
        omega)
      generalize U[k] = x at *
      obtain ⟨xi, xA, xc, xb⟩ := x
      obtain ⟨q, hq⟩ : ∃ q, Hid (xb.length = q) := ⟨_, Lib.hid rfl⟩
      replace k1 : wr.cell? ⟨b, k * 2 + 1, none⟩ = some (.slice xA q xc) := by rw [k1, ← hq.out]; rfl
      have HKC := Lib.hid (HC.out)
      have HB := Lib.hid (Below.alloc (Below.refl wr.heap.size wr) (Nat.le_refl _) (Obj.cells #[.int .i64 (xi : Nat), .slice xA q xc] 100 (0, 0)))
      have HBN := Lib.hid (heap_alloc_new wr (Obj.cells #[.int .i64 (xi : Nat), .slice xA q xc] 100 (0, 0)))
      have HK0 := Lib.hid k0
      have HKK := Lib.hid hk
      have HF1 : Hid (Fr T W (wr.alloc (Obj.cells #[.int .i64 (xi : Nat), .slice xA q xc] 100 (0, 0)))) := Lib.hid ((HR.out.1.mono (fun j _ e => by subst e; exact HH.out.ms.ter)).trans (Fr.of HB.out) (fun _ _ e => e))
      obtain ⟨lb, hlb⟩ : ∃ lb, Hid (ls k = lb) := ⟨_, Lib.hid rfl⟩
      have HCL := Lib.hid (HC.out _ k HF1.out (by omega))
      rw [hlb.out] at HCL
      obtain ⟨bb, hbb⟩ : ∃ bb, Hid (wr.heap.size = bb) := ⟨_, Lib.hid rfl⟩
      have HQ := Lib.hid (show xb.length = 512 from HX.out.2.1)
      have HRR := Lib.hid HR.out
      have HDK := Lib.hid (show ((⟨xA, xc, xb⟩ : SV).v = .slice xA q xc) by rw [← hq.out]; rfl)
      have HNX := Lib.hid (show keepF ls 0 (st.un.take (k + 1)) = keepF ls 0 (st.un.take k) ++ if lb = true then [WV.w (xi, ⟨xA, xc, xb⟩)] else [] by
        rw [HW.out, keepF_push, List.length_take, Nat.min_eq_left (by rw [← HLN.out]; omega), Nat.zero_add, hlb.out])
      cases lb
      · go_upto_region 3 with (fail)
        go_wp2_with (go_at_call 42; refine (HCL.out).mono ?_; rintro e' w' ⟨rfl, rfl⟩)
        go_roundg (U.length - (k + 1))
        case measure => have := HKK.out; omega
        case rel =>
          refine ⟨k + 1, S', by go_num, by omega, rfl, Lib.hid ⟨HRR.out.1.trans (Fr.of HB.out) (fun _ _ e => e), HRR.out.2.1.alloc _, HRR.out.2.2.1, ?_⟩⟩
          rw [HNX.out, if_neg (by decide), List.append_nil]
          exact HRR.out.2.2.2
      · go_upto_region 4 with (go_at_call 42; refine (HCL.out).mono ?_; rintro e' w' ⟨rfl, rfl⟩)
        obtain ⟨u, hu⟩ : ∃ u, (wr.alloc (Obj.cells #[.int .i64 (xi : Nat), .slice xA q xc] 100 (0, 0))).drew = u := ⟨_, rfl⟩
        have hmu : MapIs (wr.alloc (Obj.cells #[.int .i64 (xi : Nat), .slice xA q xc] 100 (0, 0))).drew ms iv SV.v In64 S' := (HRR.out.2.1.alloc _).drew
        have hbu : (wr.alloc (Obj.cells #[.int .i64 (xi : Nat), .slice xA q xc] 100 (0, 0))).drew.heap[wr.heap.size]? = _ := HBN.out
        have hfu : Fr (· = ms) W (wr.alloc (Obj.cells #[.int .i64 (xi : Nat), .slice xA q xc] 100 (0, 0))).drew := HRR.out.1.trans (Fr.of HB.out.drew) (fun _ _ e => e)
        have hszu : wr.heap.size ≤ (wr.alloc (Obj.cells #[.int .i64 (xi : Nat), .slice xA q xc] 100 (0, 0))).drew.heap.size := HB.out.size
        rw [hbb.out] at hbu ⊢
        rw [hu] at hmu hbu hfu hszu
        have HGN := Lib.hid (show ¬ g = ms from fun e => map_cells HH.out.ms.map HH.out.blk e.symm)
        have HBM := Lib.hid (show ¬ bb = ms from fun e => by have := HH.out.ms.map.lt; have := HRR.out.1.1.size; have := hbb.out; omega)
        have c3 : u.cell? ⟨g, 3, none⟩ = some (.map (some ms)) := (hfu.cell (blk_lt HH.out.blk) HGN.out).trans HH.out.c3
        have e0 : u.cell? ⟨bb, 0, none⟩ = some (.int .i64 (xi : Nat)) := blk_cell hbu 0
        have e1 : u.cell? ⟨bb, 1, none⟩ = some (.slice xA q xc) := blk_cell hbu 1
        have HS0 := Lib.hid (show u.cell? ⟨g, 3, none⟩ = some (.map (some ms)) ∧ u.cell? ⟨bb, 0, none⟩ = some (.int .i64 (xi : Nat)) ∧ u.cell? ⟨bb, 1, none⟩ = some (.slice xA q xc) from ⟨c3, e0, e1⟩)
        have HMU := Lib.hid hmu
        have HBU := Lib.hid (blk_lt hbu)
        have HFU := Lib.hid hfu
        clear hmu hbu hfu hszu c3 e0 e1
        refine wp_region_held_drew (S := fun W => W.cell? ⟨g, 3, none⟩ = some (.map (some ms)) ∧ W.cell? ⟨bb, 0, none⟩ = some (.int .i64 (xi : Nat)) ∧ W.cell? ⟨bb, 1, none⟩ = some (.slice xA q xc)) (by kernel_rfl) ?_ (fun hHeld => ?_)
        · (try dsimp only)
          rw [hu]
          exact HS0.out
        rw [hu] at hHeld ⊢
        clear hu
        refine takeSome (i := 0) (v := ?_) (by decide +kernel) rfl (by rfl) (by decide +kernel) (by decide +kernel) (fun _ _ _ h => h) (by assumption) ?_ ?_
        rotate_left
        focus (intro w0 hSw; (try dsimp only at hSw); go_simp; (try (with_reducible rfl)); done)
        (try simp only [Act.put, List.getElem_toArray, List.getElem_cons_zero, List.setIfInBounds_toArray, List.set_cons_zero, List.set_cons_succ])
        refine takeSome (i := 1) (v := ?_) (by decide +kernel) rfl (by rfl) (by decide +kernel) (by decide +kernel) (fun _ _ _ h => h) (by assumption) ?_ ?_
        rotate_left
        focus (intro w0 hSw; (try dsimp only at hSw); go_simp; (try (with_reducible rfl)); done)
        (try simp only [Act.put, List.getElem_toArray, List.getElem_cons_zero, List.getElem_cons_succ, List.setIfInBounds_toArray, List.set_cons_zero, List.set_cons_succ])
        refine takeSome (i := 2) (v := ?_) (by decide +kernel) rfl (by rfl) (by decide +kernel) (by decide +kernel) (fun _ _ _ h => h) (by assumption) ?_ ?_
        rotate_left
        focus (intro w0 hSw; (try dsimp only at hSw); go_simp; (try (with_reducible rfl)); done)
        (try simp only [Act.put, List.getElem_toArray, List.getElem_cons_zero, List.getElem_cons_succ, List.setIfInBounds_toArray, List.set_cons_zero, List.set_cons_succ])
        refine takeSome (i := 3) (v := ?_) (by decide +kernel) rfl (by rfl) (by decide +kernel) (by decide +kernel) (fun _ _ _ h => h) (by assumption) ?_ ?_
        rotate_left
        focus (intro w0 hSw; (try dsimp only at hSw); go_simp; (try (with_reducible rfl)); done)
        (try simp only [Act.put, List.getElem_toArray, List.getElem_cons_zero, List.getElem_cons_succ, List.setIfInBounds_toArray, List.set_cons_zero, List.set_cons_succ])
        refine takeSome (i := 4) (v := ?_) (by decide +kernel) rfl (by rfl) (by decide +kernel) (by decide +kernel) (fun _ _ _ h => h) (by assumption) ?_ ?_
        rotate_left
        focus (intro w0 hSw; (try dsimp only at hSw); go_simp; (try (with_reducible rfl)); done)
        (try simp only [Act.put, List.getElem_toArray, List.getElem_cons_zero, List.getElem_cons_succ, List.setIfInBounds_toArray, List.set_cons_zero, List.set_cons_succ])
        refine takeSome (i := 5) (v := ?_) (by decide +kernel) rfl (by rfl) (by decide +kernel) (by decide +kernel) (fun _ _ _ h => h) (by assumption) ?_ ?_
        rotate_left
        focus (intro w0 hSw; (try dsimp only at hSw); go_simp; (try (with_reducible rfl)); done)
        (try simp only [Act.put, List.getElem_toArray, List.getElem_cons_zero, List.getElem_cons_succ, List.setIfInBounds_toArray, List.set_cons_zero, List.set_cons_succ])
        refine takeSome (i := 6) (v := ?_) (by decide +kernel) rfl (by rfl) (by decide +kernel) (by decide +kernel) (fun _ _ _ h => h) (by assumption) ?_ ?_
        rotate_left
        focus (intro w0 hSw; (try dsimp only at hSw); go_simp; (try (with_reducible rfl)); done)
        (try simp only [Act.put, List.getElem_toArray, List.getElem_cons_zero, List.getElem_cons_succ, List.setIfInBounds_toArray, List.set_cons_zero, List.set_cons_succ])
        refine takeSome (i := 7) (v := ?_) (by decide +kernel) rfl (by rfl) (by decide +kernel) (by decide +kernel) (fun _ _ _ h => h) (by assumption) ?_ ?_
        rotate_left
        focus (intro w0 hSw; (try dsimp only at hSw); go_simp; (try (with_reducible rfl)); done)
        (try simp only [Act.put, List.getElem_toArray, List.getElem_cons_zero, List.getElem_cons_succ, List.setIfInBounds_toArray, List.set_cons_zero, List.set_cons_succ])
        refine wpAnyH_ready (rs := [8]) (by decide +kernel) (by simp) ?_
        refine AllReadyH.cons rfl (fun K hK => ?_) AllReadyH.nil
        refine step_putS (k := (xi : Int)) (y := ⟨xA, xc, xb⟩) (by rfl) _ _ _ rfl (by rfl) HMU.out HXI.out (by rfl) (HDK.out.symm) ?_; intro W2 L2 hm2 hp2 hg2 hs2; have hf2 : Fr (· = ms) u W2 := Fr.grew hg2 (fun k e => (Option.some.inj e).symm)
        refine hK.out _ _ ?_ (fun hHeld => ?_)
        focus ((try dsimp only); exact ⟨(hf2.cell (Nat.lt_of_lt_of_le (blk_lt HH.out.blk) HFU.out.1.size) HGN.out).trans HS0.out.1, (hf2.cell HBU.out HBM.out).trans HS0.out.2.1, (hf2.cell HBU.out HBM.out).trans HS0.out.2.2⟩; done)
        clear hK K
        (try simp only [Act.put, List.getElem_toArray, List.getElem_cons_zero, List.getElem_cons_succ])
        refine wpAnyH_done (by decide +kernel) ?_ _
        clear hHeld
        have HM2 := Lib.hid hm2
        have HP2 := Lib.hid hp2
        have HF2 := Lib.hid hf2
        clear hm2 hp2 hf2 hg2 hs2
        go_wp2_with fail
        go_roundg (U.length - (k + 1))
        case measure => have := HKK.out; omega
        case rel =>
          refine ⟨k + 1, L2, by go_num, by omega, rfl, Lib.hid ⟨HFU.out.trans HF2.out (fun _ _ e => e), HM2.out, fun p hp => ?_, ?_⟩⟩
          · rcases (HP2.out p).1 hp with rfl | ⟨h1, -⟩
            · exact HX.out
            · exact HRR.out.2.2.1 p h1
          · rw [HNX.out, if_pos trivial, ← List.append_assoc]
            exact HRR.out.2.2.2.put HP2.out (fun j => lastW_push _ _ _)
    · obtain rfl : k = U.length := by omega
      have HR1 := Lib.hid HR.out
      have hgn : ¬ g = ms := fun e => map_cells HH.out.ms.map HH.out.blk e.symm
      have hgm : ¬ ml = ms := fun e => HH.out.ne e.symm
      have hbg : wr.heap[g]? = _ := (HR.out.1.2 g (blk_lt HH.out.blk) hgn).trans HH.out.blk
      have f5 := blk_frozen hbg 5
      have k5 : wr.cell? ⟨g, 5, none⟩ = some (.slice A U.length c) := blk_cell hbg 5
      have b1 := blk_set hbg 5 (.slice none 0 0)
      simp only [List.setIfInBounds_toArray, List.set_cons_succ, List.set_cons_zero] at b1
      have k4 : (wr.setCell ⟨g, 5, none⟩ (.slice none 0 0)).cell? ⟨g, 4, none⟩ = some (.map (some ml)) := blk_cell b1 4
      have hml : MapIs (wr.setCell ⟨g, 5, none⟩ (.slice none 0 0)) ml iv SV.v In64 L := (HH.out.ml.map.at (HR.out.1.2 ml HH.out.ml.map.lt hgm)).setCell (map_cells HH.out.ml.map HH.out.blk) _
      obtain ⟨W3, hcl, hm3, hg3, hs3⟩ := hml.cleared (t := 84) Tryd.underlying84 0
      have hcl' : ∀ ty, (Builtin.clear_ #[84] ty #[.map (some ml)]).run Tryd.prog (wr.setCell ⟨g, 5, none⟩ (.slice none 0 0)) = .ok (.tuple #[]) W3 := fun ty => by rw [← hcl]; rfl
      have B1 := Lib.hid b1
      have HM3 := Lib.hid hm3
      have HG3 := Lib.hid hg3
      have HML := Lib.hid hml
      clear hcl hm3 hg3 hs3 hml b1 hbg
      go_wp2_with fail
      go_end0
      refine ⟨rfl, ?_⟩
      have hu : st.un.take U.length = st.un := by rw [HLN.out]; exact List.take_length
      have h4 := HR1.out.2.2.2
      rw [hu, ← setS_sure] at h4
      exact HH.out.settled ls HR1.out.1 HR1.out.2.1 HR1.out.2.2.1 h4 HM3.out HG3.out
end Go.Proofs.YtfjiceoagenfnaaDoor
