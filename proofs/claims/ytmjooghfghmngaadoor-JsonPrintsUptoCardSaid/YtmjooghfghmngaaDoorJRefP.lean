/- The document's quote: what it writes, and that it is what the printer writes. -/
import Derived.Test.YtmjooghfghmngaaDoorJBck
import Derived.Test.YtmjooghfghmngaaDoorJRefT
namespace Go.Proofs.YtmjooghfghmngaaDoor
open Go.RowKit Go.Shelf Go.Lib

/-- A byte between quotes. -/
def qb (c : UInt8) : List UInt8 :=
  if c = 34 then [92, 34] else if c = 92 then [92, 92] else if c = 8 then [92, 98] else if c = 9 then [92, 116] else if c = 10 then [92, 110] else if c = 12 then [92, 102] else if c = 13 then [92, 114]
  else if c.toNat < 32 then [92, 117, 48, 48, hexL.getD (c.toNat / 16) 0, hexL.getD (c.toNat % 16) 0] else [c]
theorem qb_len (c : UInt8) : (qb c).length ≤ 6 := by
  unfold qb
  repeat' split
  all_goals simp
theorem qb_all_len (l : List UInt8) : (l.flatMap qb).length ≤ 6 * l.length := by
  induction l with
  | nil => simp
  | cons c r ih =>
    have := qb_len c
    rw [List.flatMap_cons, List.length_append, List.length_cons]
    omega
def docQ (t : ByteArray) : List UInt8 := 34 :: (t.data.toList.flatMap qb ++ [34])
theorem byte_is {c : UInt8} {n : Nat} (h : c.toNat = n) : c = UInt8.ofNat n := by rw [← h, UInt8.ofNat_toNat]
theorem hex_at (q : Nat) (h : q < (⟨#[48, 49, 50, 51, 52, 53, 54, 55, 56, 57, 97, 98, 99, 100, 101, 102]⟩ : ByteArray).size) : (⟨#[48, 49, 50, 51, 52, 53, 54, 55, 56, 57, 97, 98, 99, 100, 101, 102]⟩ : ByteArray)[q] = hexL.getD q 0 := by
  have h16 : q < 16 := h
  have : ∀ n : Nat, (hn : n < 16) → (⟨#[48, 49, 50, 51, 52, 53, 54, 55, 56, 57, 97, 98, 99, 100, 101, 102]⟩ : ByteArray).data[n]'hn = hexL.getD n 0 := by decide
  exact this q h16
theorem step_append_by {w0 W : World} {v : Value} {l : List UInt8} (HR : BRow w0 v l W) (qs : List UInt8) (g c : Nat) (hq : Lib.BytesAt W (some ⟨g, 0, none⟩) qs.length qs) (hb : l.length + qs.length ≤ 140737488355328)
    {ops : Array Oper} {o : Oper} {a : Act} {KK : Act → World → Prop} {Q : Exit → Act → World → Prop} {E : Prop} (hgd : o.guard = none) (s x : Operand)
    (ho : o.op = .call { callee := .builtin .append, args := #[s, x], argTypes := #[26, 26] })
    (hs : a.eval s = v) (hx : a.eval x = .slice (some ⟨g, 0, none⟩) qs.length c)
    (h : ∀ v' w', BRow w0 v' (l ++ qs) w' → KK (a.put o.dst v') w') :
    if Region.wanted o (yielded ops a.tmps) = true then Oper.wp Tryd.prog o a W KK Q else E := by
  rw [if_pos (wanted_of hgd)]
  obtain ⟨i0, z, hi, hz0, hz1, hz2⟩ : ∃ i z, Tryd.prog.info? 5 = some i ∧ i.zero = some z ∧ i.size = 1 ∧ (i.bytes = 1 ∧ z.cells.size = 1) := by
    obtain ⟨i, h1, h2, h3, h4⟩ := info_parts infoB
    exact ⟨i, _, h1, h2, h3, h4, rfl⟩
  obtain ⟨v', w', hr, h2, h3, h4, h5⟩ := run_append_own_at (P := Tryd.prog) W w0.heap.size 26 o.type 5 i0 z 1 1 Tryd.underlying26 hi hz0 hz1 hz2.1 hz2.2 (by decide) v l.length (byV l) HR.2 ⟨g, 0, none⟩ qs.length c (byV qs) (by rw [byV_len, Nat.mul_one]) (fun j u hu => by
    have hj : j < qs.length := by
      have := (List.getElem?_eq_some_iff.1 hu).1
      rwa [byV_len] at this
    obtain ⟨g', o', e, hc⟩ := hq (by omega)
    cases e
    rw [show (⟨g, 0, none⟩ : Addr).add j = ⟨g, 0 + j, none⟩ by simp [Addr.add]; omega, hc j hj, ← hu]
    simp [byV, List.getD_eq_getElem?_getD, List.getElem?_eq_getElem hj]) (fun u hu => by
    obtain ⟨y, _, rfl⟩ := List.mem_map.1 hu
    rfl) (by unfold maxLen; omega) (by omega) HR.1.size
  unfold Oper.wp execOp
  simp only [ho, resolve, invoke, builtin, Sem.run_bind, Sem.run_pure, Result.andThen_ok, List.map_toArray, List.map_cons, List.map_nil, hs, hx, hr]
  refine h _ _ ⟨HR.1.grown h3 HR.1.size (fun k hk => (HR.2.lt k hk).1), ?_⟩
  rw [List.length_append]
  have : byV (l ++ qs) = byV l ++ byV qs := by simp [byV]
  rw [this]
  exact h2
set_option maxHeartbeats 4000000 in
set_option maxRecDepth 100000 in
theorem ref_quote (t : ByteArray) (W : World) (ht : t.size ≤ 2097152) : Calls Tryd.prog 35 #[.string t] W fun e w' => ∃ v, e = .returned v ∧ BRow W v (docQ t) w' := by
  have hr0 : BRow W (.slice (some ⟨W.heap.size, 0, none⟩) 1 1) [34] (W.alloc (Obj.cells #[.int .u8 34] 5)) := ⟨by go_grown, World.ownsRow_lit W #[.int .u8 34] 1 (Nat.le_refl _) (by unfold maxLen; omega) rfl⟩
  have HR0 := Lib.hid hr0
  clear hr0
  go_enter Tryd.func35, Tryd.ntmps35
  go_wp2_with fail
  go_loopw [3, 4] (fun v i wr => ∃ (j : Nat) (l : List UInt8), i = .int .i64 j ∧ j ≤ t.size ∧ l.length ≤ 6 * j + 1 ∧ Hid (l = 34 :: (t.data.toList.take j).flatMap qb) ∧ Hid (BRow W v l wr)) (fun _ i _ => t.size - (RowKit.intOf i).toNat)
  case atStart => exact ⟨0, [34], rfl, Nat.zero_le _, by simp, Lib.hid (by simp), HR0.out⟩
  case round =>
    rename_i v
    obtain ⟨j, l, rfl, hj, hll, HL, HR⟩ := hrel
    by_cases hlt : j < t.size
    · have hl : (j : Int) < (t.size : Int) := by omega
      have hl0 : (0 : Int) ≤ (j : Int) := by omega
      have hx : t.data.toList.take (j + 1) = t.data.toList.take j ++ [t[j]] := by
        rw [List.take_add_one]
        have hj2 : j < t.data.toList.length := by rw [← Lib.size_eq]; exact hlt
        rw [List.getElem?_eq_getElem hj2]
        rfl
      have hnew : l ++ qb t[j] = 34 :: (t.data.toList.take (j + 1)).flatMap qb := by rw [HL.out, hx]; simp
      have HNEW := Lib.hid hnew
      have hc8 := t[j].toNat_lt
      obtain ⟨c, hc⟩ : ∃ c : UInt8, c = t[j] := ⟨_, rfl⟩
      rw [← hc] at hc8
      have HCE : Hid (t[j] = c) := hc.symm
      have HNEW : Hid (l ++ qb c = 34 :: (t.data.toList.take (j + 1)).flatMap qb) := by rw [hc]; exact HNEW.out
      clear hx hnew hc
      by_cases h34 : c.toNat = 34
      · have HQ : Hid (qb c = [92, 34]) := Lib.hid (by rw [byte_is h34]; rfl)
        have hcc : c = 34 := byte_is h34
        subst hcc
        have hi : t[j].toNat = 34 := by rw [HCE.out]; rfl
        clear h34
        go_wp2_with (at_builtin; go_must (refine append_by (HR.out.on (Joins.below_alloc1 _ _)) [92, 34] _ 2 (bytes_lit (s := [92, 34]) rfl) (fun e => by cases e) (by simp only [List.length_cons, List.length_nil]; omega) rfl _ _ rfl rfl rfl ?_; rintro v' w' HR'; have HR2 := Lib.hid HR'; clear HR'))
        exact ⟨⟨j + 1, _, by go_num, by omega, by simp only [List.length_append, List.length_cons, List.length_nil]; omega, Lib.hid (by rw [← HNEW.out, HQ.out]), HR2.out⟩, by simp [RowKit.intOf]; omega⟩
      have g34 : ((t[j].toNat : Int) == 34) = false := by rw [HCE.out]; simp; omega
      by_cases h92 : c.toNat = 92
      · have HQ : Hid (qb c = [92, 92]) := Lib.hid (by rw [byte_is h92]; rfl)
        have hcc : c = 92 := byte_is h92
        subst hcc
        have hi : t[j].toNat = 92 := by rw [HCE.out]; rfl
        clear h92
        go_wp2_with (at_builtin; go_must (refine append_by (HR.out.on (Joins.below_alloc1 _ _)) [92, 92] _ 2 (bytes_lit (s := [92, 92]) rfl) (fun e => by cases e) (by simp only [List.length_cons, List.length_nil]; omega) rfl _ _ rfl rfl rfl ?_; rintro v' w' HR'; have HR2 := Lib.hid HR'; clear HR'))
        exact ⟨⟨j + 1, _, by go_num, by omega, by simp only [List.length_append, List.length_cons, List.length_nil]; omega, Lib.hid (by rw [← HNEW.out, HQ.out]), HR2.out⟩, by simp [RowKit.intOf]; omega⟩
      have g92 : ((t[j].toNat : Int) == 92) = false := by rw [HCE.out]; simp; omega
      by_cases h8 : c.toNat = 8
      · have HQ : Hid (qb c = [92, 98]) := Lib.hid (by rw [byte_is h8]; rfl)
        have hcc : c = 8 := byte_is h8
        subst hcc
        have hi : t[j].toNat = 8 := by rw [HCE.out]; rfl
        clear h8
        go_wp2_with (at_builtin; go_must (refine append_by (HR.out.on (Joins.below_alloc1 _ _)) [92, 98] _ 2 (bytes_lit (s := [92, 98]) rfl) (fun e => by cases e) (by simp only [List.length_cons, List.length_nil]; omega) rfl _ _ rfl rfl rfl ?_; rintro v' w' HR'; have HR2 := Lib.hid HR'; clear HR'))
        exact ⟨⟨j + 1, _, by go_num, by omega, by simp only [List.length_append, List.length_cons, List.length_nil]; omega, Lib.hid (by rw [← HNEW.out, HQ.out]), HR2.out⟩, by simp [RowKit.intOf]; omega⟩
      have g8 : ((t[j].toNat : Int) == 8) = false := by rw [HCE.out]; simp; omega
      by_cases h9 : c.toNat = 9
      · have HQ : Hid (qb c = [92, 116]) := Lib.hid (by rw [byte_is h9]; rfl)
        have hcc : c = 9 := byte_is h9
        subst hcc
        have hi : t[j].toNat = 9 := by rw [HCE.out]; rfl
        clear h9
        go_wp2_with (at_builtin; go_must (refine append_by (HR.out.on (Joins.below_alloc1 _ _)) [92, 116] _ 2 (bytes_lit (s := [92, 116]) rfl) (fun e => by cases e) (by simp only [List.length_cons, List.length_nil]; omega) rfl _ _ rfl rfl rfl ?_; rintro v' w' HR'; have HR2 := Lib.hid HR'; clear HR'))
        exact ⟨⟨j + 1, _, by go_num, by omega, by simp only [List.length_append, List.length_cons, List.length_nil]; omega, Lib.hid (by rw [← HNEW.out, HQ.out]), HR2.out⟩, by simp [RowKit.intOf]; omega⟩
      have g9 : ((t[j].toNat : Int) == 9) = false := by rw [HCE.out]; simp; omega
      by_cases h10 : c.toNat = 10
      · have HQ : Hid (qb c = [92, 110]) := Lib.hid (by rw [byte_is h10]; rfl)
        have hcc : c = 10 := byte_is h10
        subst hcc
        have hi : t[j].toNat = 10 := by rw [HCE.out]; rfl
        clear h10
        go_wp2_with (at_builtin; go_must (refine append_by (HR.out.on (Joins.below_alloc1 _ _)) [92, 110] _ 2 (bytes_lit (s := [92, 110]) rfl) (fun e => by cases e) (by simp only [List.length_cons, List.length_nil]; omega) rfl _ _ rfl rfl rfl ?_; rintro v' w' HR'; have HR2 := Lib.hid HR'; clear HR'))
        exact ⟨⟨j + 1, _, by go_num, by omega, by simp only [List.length_append, List.length_cons, List.length_nil]; omega, Lib.hid (by rw [← HNEW.out, HQ.out]), HR2.out⟩, by simp [RowKit.intOf]; omega⟩
      have g10 : ((t[j].toNat : Int) == 10) = false := by rw [HCE.out]; simp; omega
      by_cases h12 : c.toNat = 12
      · have HQ : Hid (qb c = [92, 102]) := Lib.hid (by rw [byte_is h12]; rfl)
        have hcc : c = 12 := byte_is h12
        subst hcc
        have hi : t[j].toNat = 12 := by rw [HCE.out]; rfl
        clear h12
        go_wp2_with (at_builtin; go_must (refine append_by (HR.out.on (Joins.below_alloc1 _ _)) [92, 102] _ 2 (bytes_lit (s := [92, 102]) rfl) (fun e => by cases e) (by simp only [List.length_cons, List.length_nil]; omega) rfl _ _ rfl rfl rfl ?_; rintro v' w' HR'; have HR2 := Lib.hid HR'; clear HR'))
        exact ⟨⟨j + 1, _, by go_num, by omega, by simp only [List.length_append, List.length_cons, List.length_nil]; omega, Lib.hid (by rw [← HNEW.out, HQ.out]), HR2.out⟩, by simp [RowKit.intOf]; omega⟩
      have g12 : ((t[j].toNat : Int) == 12) = false := by rw [HCE.out]; simp; omega
      by_cases h13 : c.toNat = 13
      · have HQ : Hid (qb c = [92, 114]) := Lib.hid (by rw [byte_is h13]; rfl)
        have hcc : c = 13 := byte_is h13
        subst hcc
        have hi : t[j].toNat = 13 := by rw [HCE.out]; rfl
        clear h13
        go_wp2_with (at_builtin; go_must (refine append_by (HR.out.on (Joins.below_alloc1 _ _)) [92, 114] _ 2 (bytes_lit (s := [92, 114]) rfl) (fun e => by cases e) (by simp only [List.length_cons, List.length_nil]; omega) rfl _ _ rfl rfl rfl ?_; rintro v' w' HR'; have HR2 := Lib.hid HR'; clear HR'))
        exact ⟨⟨j + 1, _, by go_num, by omega, by simp only [List.length_append, List.length_cons, List.length_nil]; omega, Lib.hid (by rw [← HNEW.out, HQ.out]), HR2.out⟩, by simp [RowKit.intOf]; omega⟩
      have g13 : ((t[j].toNat : Int) == 13) = false := by rw [HCE.out]; simp; omega
      have hnq : ∀ n : Nat, n < 256 → c.toNat ≠ n → c ≠ UInt8.ofNat n := fun n hn h e => h (by rw [e, UInt8.toNat_ofNat']; omega)
      have n34 : c ≠ 34 := hnq 34 (by omega) h34
      have n92 : c ≠ 92 := hnq 92 (by omega) h92
      have n8 : c ≠ 8 := hnq 8 (by omega) h8
      have n9 : c ≠ 9 := hnq 9 (by omega) h9
      have n10 : c ≠ 10 := hnq 10 (by omega) h10
      have n12 : c ≠ 12 := hnq 12 (by omega) h12
      have n13 : c ≠ 13 := hnq 13 (by omega) h13
      by_cases h32 : c.toNat < 32
      · have hqe : qb c = [92, 117, 48, 48, hexL.getD (c.toNat / 16) 0, hexL.getD (c.toNat % 16) 0] := by
          unfold qb
          rw [if_neg n34, if_neg n92, if_neg n8, if_neg n9, if_neg n10, if_neg n12, if_neg n13, if_pos h32]
        obtain ⟨q, hq⟩ : ∃ q, q = c.toNat / 16 := ⟨_, rfl⟩
        obtain ⟨r, hr⟩ : ∃ r, r = c.toNat % 16 := ⟨_, rfl⟩
        rw [← hq, ← hr] at hqe
        have hq1 : ((t[j].toNat : Nat) : Int).tdiv 16 = (q : Int) := by rw [HCE.out, Int.tdiv_eq_ediv_of_nonneg (by omega)]; omega
        have hr1 : ((t[j].toNat : Nat) : Int).tmod 16 = (r : Int) := by rw [HCE.out, Int.tmod_eq_emod_of_nonneg (by omega)]; omega
        have hq2 : q < 16 := by omega
        have hr2 : r < 16 := by omega
        have hq3 : (q : Int) < 16 := by omega
        have hr3 : (r : Int) < 16 := by omega
        have hq4 : (0 : Int) ≤ (q : Int) := by omega
        have hr4 : (0 : Int) ≤ (r : Int) := by omega
        have hi32 : ((t[j].toNat : Nat) : Int) < 32 := by rw [HCE.out]; omega
        have HQ := Lib.hid hqe
        clear hqe hq hr hnq n34 n92 n8 n9 n10 n12 n13 h34 h92 h8 h9 h10 h12 h13 h32
        go_wp2_with fail
        have hq5 : IntKind.u8.wrap (q : Int) = (q : Int) := by rw [IntKind.wrap_u8]; omega
        have hr5 : IntKind.u8.wrap (r : Int) = (r : Int) := by rw [IntKind.wrap_u8]; omega
        refine wp_region_held_drew (S := (fun _ => True)) (by kernel_rfl) trivial (fun hHeld => ?_)
        have HRD := Lib.hid (HR.out.on (below_drew (Below.refl wr.heap.size wr)))
        generalize (World.drew _) = wd at HRD hHeld ⊢
        refine takeSome (i := 0) (v := ?_) (by decide +kernel) rfl (by rfl) (by decide +kernel) (by decide +kernel) (fun _ _ _ h => h) (by assumption) ?_ ?_
        rotate_left
        focus (intro w0 hSw; (try dsimp only at hSw); go_simp; (try (with_reducible rfl)); done)
        (try simp only [Act.put, List.getElem_toArray, List.getElem_cons_zero, List.setIfInBounds_toArray, List.set_cons_zero, List.set_cons_succ])
        refine takeSome (i := 1) (v := ?_) (by decide +kernel) rfl (by rfl) (by decide +kernel) (by decide +kernel) (fun _ _ _ h => h) (by assumption) ?_ ?_
        rotate_left
        focus (intro w0 hSw; (try dsimp only at hSw); go_simp; (try (with_reducible rfl)); done)
        (try simp only [Act.put, List.getElem_toArray, List.getElem_cons_zero, List.getElem_cons_succ, List.setIfInBounds_toArray, List.set_cons_zero, List.set_cons_succ])
        refine takeSome (i := 2) (v := ?_) (by decide +kernel) rfl (by rfl) (by decide +kernel) (by decide +kernel) (fun _ _ _ h => h) (by assumption) ?_ ?_
        rotate_left
        focus (intro w0 hSw; (try dsimp only at hSw); go_simp; (try (with_reducible rfl)); done)
        (try simp only [Act.put, List.getElem_toArray, List.getElem_cons_zero, List.getElem_cons_succ, List.setIfInBounds_toArray, List.set_cons_zero, List.set_cons_succ])
        refine takeSome (i := 3) (v := ?_) (by decide +kernel) rfl (by rfl) (by decide +kernel) (by decide +kernel) (fun _ _ _ h => h) (by assumption) ?_ ?_
        rotate_left
        focus (intro w0 hSw; (try dsimp only at hSw); go_simp; (try (with_reducible rfl)); done)
        (try simp only [Act.put, List.getElem_toArray, List.getElem_cons_zero, List.getElem_cons_succ, List.setIfInBounds_toArray, List.set_cons_zero, List.set_cons_succ])
        refine takeSome (i := 4) (v := ?_) (by decide +kernel) rfl (by rfl) (by decide +kernel) (by decide +kernel) (fun _ _ _ h => h) (by assumption) ?_ ?_
        rotate_left
        focus (intro w0 hSw; (try dsimp only at hSw); go_simp; (try (with_reducible rfl)); done)
        (try simp only [Act.put, List.getElem_toArray, List.getElem_cons_zero, List.getElem_cons_succ, List.setIfInBounds_toArray, List.set_cons_zero, List.set_cons_succ])
        refine takeSome (i := 5) (v := ?_) (by decide +kernel) rfl (by rfl) (by decide +kernel) (by decide +kernel) (fun _ _ _ h => h) (by assumption) ?_ ?_
        rotate_left
        focus (intro w0 hSw; (try dsimp only at hSw); go_simp; (try (with_reducible rfl)); done)
        (try simp only [Act.put, List.getElem_toArray, List.getElem_cons_zero, List.getElem_cons_succ, List.setIfInBounds_toArray, List.set_cons_zero, List.set_cons_succ])
        refine takeSome (i := 6) (v := ?_) (by decide +kernel) rfl (by rfl) (by decide +kernel) (by decide +kernel) (fun _ _ _ h => h) (by assumption) ?_ ?_
        rotate_left
        focus (intro w0 hSw; (try dsimp only at hSw); go_simp; (try (with_reducible rfl)); done)
        (try simp only [Act.put, List.getElem_toArray, List.getElem_cons_zero, List.getElem_cons_succ, List.setIfInBounds_toArray, List.set_cons_zero, List.set_cons_succ])
        refine takeSome (i := 7) (v := ?_) (by decide +kernel) rfl (by rfl) (by decide +kernel) (by decide +kernel) (fun _ _ _ h => h) (by assumption) ?_ ?_
        rotate_left
        focus (intro w0 hSw; (try dsimp only at hSw); go_simp; (try (with_reducible rfl)); done)
        (try simp only [Act.put, List.getElem_toArray, List.getElem_cons_zero, List.getElem_cons_succ, List.setIfInBounds_toArray, List.set_cons_zero, List.set_cons_succ])
        refine takeSome (i := 8) (v := ?_) (by decide +kernel) rfl (by rfl) (by decide +kernel) (by decide +kernel) (fun _ _ _ h => h) (by assumption) ?_ ?_
        rotate_left
        focus (intro w0 hSw; (try dsimp only at hSw); go_simp; (try (with_reducible rfl)); done)
        (try simp only [Act.put, List.getElem_toArray, List.getElem_cons_zero, List.getElem_cons_succ, List.setIfInBounds_toArray, List.set_cons_zero, List.set_cons_succ])
        refine wpAnyH_ready (rs := [9]) (by decide +kernel) (by simp) ?_
        refine AllReadyH.cons rfl (fun K hK => ?_) AllReadyH.nil
        (try simp only [List.getElem_toArray, List.getElem_cons_zero, List.getElem_cons_succ])
        go_simp
        refine hK.out _ _ ?_ (fun hHeld => ?_)
        focus ((try dsimp only); skip; done)
        clear hK K
        (try simp only [Act.put, List.getElem_toArray, List.getElem_cons_zero, List.getElem_cons_succ, List.setIfInBounds_toArray, List.set_cons_zero, List.set_cons_succ])
        refine wpAnyH_ready (rs := [10]) (by decide +kernel) (by simp) ?_
        refine AllReadyH.cons rfl (fun K hK => ?_) AllReadyH.nil
        refine step_append_by (HRD.out.on ((Below.refl wd.heap.size wd).alloc (Nat.le_refl _) _)) [92, 117, 48, 48, _, _] wd.heap.size 6 (bytes_lit (s := [92, 117, 48, 48, _, _]) rfl) (by simp only [List.length_cons, List.length_nil]; omega) rfl _ _ rfl rfl rfl ?_; rintro v' w' HR'; have HR2 := Lib.hid HR'; clear HR'
        refine hK.out _ _ ?_ (fun hHeld => ?_)
        focus ((try dsimp only); skip; done)
        clear hK K
        (try simp only [Act.put, List.getElem_toArray, List.getElem_cons_zero, List.getElem_cons_succ, List.setIfInBounds_toArray, List.set_cons_zero, List.set_cons_succ])
        refine takeSome (i := 11) (v := ?_) (by decide +kernel) rfl (by rfl) (by decide +kernel) (by decide +kernel) (fun _ _ _ h => h) (by assumption) ?_ ?_
        rotate_left
        focus (intro w0 hSw; (try dsimp only at hSw); go_simp; (try (with_reducible rfl)); done)
        (try simp only [Act.put, List.getElem_toArray, List.getElem_cons_zero, List.getElem_cons_succ, List.setIfInBounds_toArray, List.set_cons_zero, List.set_cons_succ])
        refine wpAnyH_done (by decide +kernel) ?_ _
        go_wp2_with fail
        exact ⟨⟨j + 1, _, by go_num, by omega, by simp only [List.length_append, List.length_cons, List.length_nil]; omega, Lib.hid (by rw [← HNEW.out, HQ.out]; simp only [hex_at]), HR2.out⟩, by simp [RowKit.intOf]; omega⟩
      have hqe : qb c = [c] := by
        unfold qb
        rw [if_neg n34, if_neg n92, if_neg n8, if_neg n9, if_neg n10, if_neg n12, if_neg n13, if_neg h32]
      have HQ := Lib.hid hqe
      have hi32 : ¬ ((t[j].toNat : Nat) : Int) < 32 := by rw [HCE.out]; omega
      have HTJ : Hid ([t[j]] = [c]) := Lib.hid (by rw [HCE.out])
      clear hqe hnq n34 n92 n8 n9 n10 n12 n13 h34 h92 h8 h9 h10 h12 h13 h32
      go_wp2_with (at_builtin; go_must (refine append_by (HR.out.on (Joins.below_alloc1 _ _)) [t[j]] _ 1 (bytes_lit (s := [t[j]]) rfl) (fun e => by cases e) (by simp only [List.length_cons, List.length_nil]; omega) rfl _ _ rfl rfl rfl ?_; rintro v' w' HR'; have HR2 := Lib.hid HR'; clear HR'))
      exact ⟨⟨j + 1, _, by go_num, by omega, by simp only [List.length_append, List.length_cons, List.length_nil]; omega, Lib.hid (by rw [← HNEW.out, HQ.out, HTJ.out]), HR2.out⟩, by simp [RowKit.intOf]; omega⟩
    · have hl : ¬ (j : Int) < (t.size : Int) := by omega
      have hfin : l ++ [34] = docQ t := by
        rw [HL.out, List.take_of_length_le (by rw [← Lib.size_eq]; omega)]
        simp [docQ]
      have HFIN := Lib.hid hfin
      clear hfin
      go_wp2_with (at_builtin; go_must (refine append_by (HR.out.on (Joins.below_alloc1 _ _)) [34] _ 1 (bytes_lit (s := [34]) rfl) (fun e => by cases e) (by simp only [List.length_cons, List.length_nil]; omega) rfl _ _ rfl rfl rfl ?_; rintro v' w' HR'; have HR2 := Lib.hid HR'; clear HR'))
      go_ret
      exact ⟨_, rfl, by rw [← HFIN.out]; exact HR2.out⟩
end Go.Proofs.YtmjooghfghmngaaDoor

/- Rows of bytes that grow, and what stays beside them; the document's quote is the printer's. -/
namespace Go.Proofs.YtmjooghfghmngaaDoor
open Go.RowKit Go.Shelf Go.Lib

theorem shown_low_qb : ∀ r : Nat, r < 128 → shownL r = qb (UInt8.ofNat r) := by decide +kernel
theorem qb_high : ∀ {l : List UInt8}, (∀ c ∈ l, 128 ≤ c.toNat) → l.flatMap qb = l
  | [], _ => rfl
  | c :: l, h => by
    have hc := h c (by simp)
    have e : qb c = [c] := by
      have hn : ∀ n : Nat, n < 128 → c ≠ UInt8.ofNat n := fun n hn e => by
        rw [e, UInt8.toNat_ofNat'] at hc
        omega
      unfold qb
      rw [if_neg (show c ≠ 34 from hn 34 (by decide)), if_neg (show c ≠ 92 from hn 92 (by decide)), if_neg (show c ≠ 8 from hn 8 (by decide)), if_neg (show c ≠ 9 from hn 9 (by decide)), if_neg (show c ≠ 10 from hn 10 (by decide)), if_neg (show c ≠ 12 from hn 12 (by decide)), if_neg (show c ≠ 13 from hn 13 (by decide)), if_neg (by omega)]
    rw [List.flatMap_cons, e, qb_high fun x hx => h x (by simp [hx])]
    rfl
theorem shown_qb {r : Nat} : shownL r = (Lib.encodeRune (r : Int)).flatMap qb := by
  by_cases h : r < 128
  · rw [enc_one h, shown_low_qb r h]; simp
  · rw [qb_high (enc_high2 (by omega))]
    unfold shownL
    rw [if_neg (by omega), if_neg (by omega), if_neg (by omega), if_neg (by omega), if_neg (by omega), if_neg (by omega), if_neg (by omega), if_neg (by omega)]
theorem shown_doc (s : ByteArray) : ∀ (f pos : Nat), pos ≤ s.size → s.size < f + pos → Lib.validD (s.data.toList.drop pos) = true → shownFrom s f pos = (s.data.toList.drop pos).flatMap qb
  | 0, pos, h1, h2, _ => by omega
  | f + 1, pos, h1, h2, hv => by
    unfold shownFrom
    by_cases hp : pos < s.size
    · rw [if_pos hp]
      have hne : s.data.toList.drop pos ≠ [] := fun e => by
        have := congrArg List.length e
        rw [List.length_drop, ← Lib.size_eq] at this
        simp at this
        omega
      obtain ⟨r, hr, hg, hn, he, hv2⟩ := valid_head hne hv
      have hd : Utf8.decode s pos = Lib.decodeL (s.data.toList.drop pos) := (Lib.decodeL_drop s pos).symm
      rw [hd, ← hr, hn]
      have hl := enc_len (r := r)
      have hle : pos + (Lib.encodeRune (r : Int)).length ≤ s.size := by
        have := congrArg List.length he
        rw [List.length_append, List.length_drop, List.length_drop, ← Lib.size_eq] at this
        omega
      rw [List.drop_drop] at hv2 he
      have ih := shown_doc s f (pos + (Lib.encodeRune (r : Int)).length) hle (by omega) hv2
      rw [he, List.flatMap_append, ih, shown_qb]
    · rw [if_neg hp, List.drop_eq_nil_of_le (by rw [← Lib.size_eq]; omega)]
      rfl
theorem docQ_eq {t : ByteArray} (hv : Lib.validD t.data.toList = true) : docQ t = quotedL t := by
  have := shown_doc t (t.size + 1) 0 (Nat.zero_le _) (by omega) (by rw [List.drop_zero]; exact hv)
  rw [List.drop_zero] at this
  unfold docQ quotedL
  rw [this]

/-- Blocks that hold no bytes stay. -/
def BKept (w w' : World) : Prop := w.heap.size ≤ w'.heap.size ∧ ∀ (k : Nat) (o : Obj), w.heap[k]? = some o → (∀ cur fr, o ≠ Obj.cells cur 5 fr) → w'.heap[k]? = some o
theorem BKept.refl (w : World) : BKept w w := ⟨Nat.le_refl _, fun _ _ h _ => h⟩
theorem BKept.trans {w1 w2 w3 : World} (h : BKept w1 w2) (k : BKept w2 w3) : BKept w1 w3 := ⟨Nat.le_trans h.1 k.1, fun i o hi hn => k.2 i o (h.2 i o hi hn) hn⟩
theorem BKept.below {w w' : World} (h : Below w.heap.size w w') : BKept w w' := ⟨h.size, fun k _ hk _ => (h.block k (blk_lt hk)).trans hk⟩
theorem BKept.grown {w w' : World} {B n : Nat} {v : Value} {xs : List Value} (ho : w.ownsRow B 5 1 v n xs) (hg : w.grownBy w' v.ownBlock) : BKept w w' :=
  ⟨hg.size, fun k o hk hn => (hg.block k (blk_lt hk) (fun e => by
    rcases ho.2 with ⟨hv, _⟩ | ⟨g, cap, cur, hv, _, hgg, _⟩
    · rw [hv] at e; cases e
    · rw [hv] at e
      simp only [Value.ownBlock, Option.some.injEq] at e
      subst e
      rw [hk] at hgg
      cases hgg
      exact hn _ _ rfl)).trans hk⟩
theorem BKept.cells {w w' : World} {g : Nat} {cs : Array Value} {t : TypeId} (h : BKept w w') (hg : w.heap[g]? = some (.cells cs t (0, 0))) (ht : t ≠ 5) : w'.heap[g]? = some (.cells cs t (0, 0)) := h.2 g _ hg (fun cur fr e => by cases e; exact ht rfl)
section
variable {w0 W : World} {v : Value} {l : List UInt8}
theorem brow_full (h : BRow w0 v l W) (hp : 0 < l.length) : ∃ g c, v = .slice (some ⟨g, 0, none⟩) l.length c ∧ Lib.BytesAt W (some ⟨g, 0, none⟩) l.length l := by
  obtain ⟨A, c, rfl, hB, -⟩ := h.at
  rcases h.2.2 with ⟨e, h0⟩ | ⟨g, cap, cur, e, -⟩
  · omega
  · cases e
    exact ⟨g, c, rfl, hB⟩
theorem append_byK (HR : BRow w0 v l W) (qs : List UInt8) (g c : Nat) (hq : Lib.BytesAt W (some ⟨g, 0, none⟩) qs.length qs) (hb : l.length + qs.length ≤ 140737488355328)
    {ops : Array Oper} {rest : List Oper} {o : Oper} {a : Act} {Q : Exit → Act → World → Prop} (hgd : o.guard = none) (s x : Operand)
    (ho : o.op = .call { callee := .builtin .append, args := #[s, x], argTypes := #[26, 26] })
    (hs : a.eval s = v) (hx : a.eval x = .slice (some ⟨g, 0, none⟩) qs.length c)
    (h : ∀ v' w', BRow w0 v' (l ++ qs) w' → BKept W w' → wpList Tryd.prog ops Q rest (a.put o.dst v') w') :
    wpList Tryd.prog ops Q (o :: rest) a W := by
  obtain ⟨i0, z, hi, hz0, hz1, hz2⟩ : ∃ i z, Tryd.prog.info? 5 = some i ∧ i.zero = some z ∧ i.size = 1 ∧ (i.bytes = 1 ∧ z.cells.size = 1) := by
    obtain ⟨i, h1, h2, h3, h4⟩ := info_parts infoB
    exact ⟨i, _, h1, h2, h3, h4, rfl⟩
  refine wpList_append_own_at _ hgd s x 26 ho w0.heap.size 5 i0 z 1 1 Tryd.underlying26 hi hz0 hz1 hz2.1 hz2.2 (by decide) v l.length (byV l) hs HR.2 ⟨g, 0, none⟩ qs.length c (byV qs) hx (by rw [byV_len, Nat.mul_one]) (fun j u hu => ?_) (fun u hu => ?_) (by unfold maxLen; omega) (by omega) HR.1.size ?_
  · have hj : j < qs.length := by
      have := (List.getElem?_eq_some_iff.1 hu).1
      rwa [byV_len] at this
    obtain ⟨g', o', e, hc⟩ := hq (by omega)
    cases e
    rw [show (⟨g, 0, none⟩ : Addr).add j = ⟨g, 0 + j, none⟩ by simp [Addr.add]; omega, hc j hj, ← hu]
    simp [byV, List.getD_eq_getElem?_getD, List.getElem?_eq_getElem hj]
  · obtain ⟨y, _, rfl⟩ := List.mem_map.1 hu
    rfl
  · intro v' w' hown hgrow _ _
    refine h v' w' ⟨HR.1.grown hgrow HR.1.size (fun k hk => (HR.2.lt k hk).1), ?_⟩ (BKept.grown HR.2 hgrow)
    rw [List.length_append]
    have : byV (l ++ qs) = byV l ++ byV qs := by simp [byV]
    rw [this]
    exact hown
theorem append_strK (HR : BRow w0 v l W) (t : ByteArray) (hb : l.length + t.size ≤ 140737488355328)
    {ops : Array Oper} {rest : List Oper} {o : Oper} {a : Act} {Q : Exit → Act → World → Prop} (hgd : o.guard = none) (s x : Operand)
    (ho : o.op = .call { callee := .builtin .append, args := #[s, x], argTypes := #[26, 9] })
    (hs : a.eval s = v) (hx : a.eval x = .string t)
    (h : ∀ v' w', BRow w0 v' (l ++ t.data.toList) w' → BKept W w' → wpList Tryd.prog ops Q rest (a.put o.dst v') w') :
    wpList Tryd.prog ops Q (o :: rest) a W := by
  obtain ⟨i, hi, hz0, hz1, hz2⟩ := info_parts infoB
  refine Lib.wpList_append_own_string _ hgd s x 26 9 ho w0.heap.size 5 i Tryd.underlying26 Tryd.underlying9 hi hz0 hz1 hz2 v l.length (byV l) hs HR.2 t hx (by unfold maxLen; omega) (by omega) HR.1.size ?_
  intro v' w' hown hgrow _
  refine h v' w' ⟨HR.1.grown hgrow HR.1.size (fun k hk => (HR.2.lt k hk).1), ?_⟩ (BKept.grown HR.2 hgrow)
  rw [strCells_by, Lib.size_eq] at hown
  rw [List.length_append]
  have : byV (l ++ t.data.toList) = byV l ++ byV t.data.toList := by simp [byV]
  rw [this]
  exact hown
end
end Go.Proofs.YtmjooghfghmngaaDoor

/- The document's print: of a sound value it is what the printer writes. -/
namespace Go.Proofs.YtmjooghfghmngaaDoor
open Go.RowKit Go.Shelf Go.Lib

set_option maxRecDepth 100000 in
theorem rp_word1 {w0 W : World} {v : Value} {l : List UInt8} (HR0 : BRow w0 v l W) (t : ByteArray) (A1 A2 : Option Addr) (a c1 b c2 : Nat) (hl : l.length + ([110, 117, 108, 108]).length ≤ 70368744177664) :
    Calls Tryd.prog 20 #[v, .agg #[.int .i64 1, .string t, .slice A1 a c1, .slice A2 b c2]] W fun e w' => ∃ v', e = .returned v' ∧ BRow w0 v' (l ++ [110, 117, 108, 108]) w' ∧ BKept W w' := by
  have hb1 : Below W.heap.size W (W.alloc (Obj.cells #[.int .i64 1, .string t, .slice A1 a c1, .slice A2 b c2] 25)) := by go_grown
  have HR := Lib.hid (HR0.on hb1)
  have HK1 := Lib.hid (BKept.below hb1)
  clear hb1 HR0
  simp only [List.length_cons, List.length_nil] at hl
  go_enter Tryd.func20, Tryd.ntmps20
  go_wp2_with (at_builtin; go_must (refine append_strK HR.out ⟨#[110, 117, 108, 108]⟩ (by show l.length + 4 ≤ _; omega) rfl _ _ rfl rfl rfl ?_; rintro v' w' HR' hK; have HR2 := Lib.hid HR'; have HK2 := Lib.hid (HK1.out.trans hK); clear HR' hK))
  go_ret
  exact ⟨_, rfl, HR2.out, HK2.out⟩
set_option maxRecDepth 100000 in
theorem rp_word2 {w0 W : World} {v : Value} {l : List UInt8} (HR0 : BRow w0 v l W) (t : ByteArray) (A1 A2 : Option Addr) (a c1 b c2 : Nat) (hl : l.length + ([102, 97, 108, 115, 101]).length ≤ 70368744177664) :
    Calls Tryd.prog 20 #[v, .agg #[.int .i64 2, .string t, .slice A1 a c1, .slice A2 b c2]] W fun e w' => ∃ v', e = .returned v' ∧ BRow w0 v' (l ++ [102, 97, 108, 115, 101]) w' ∧ BKept W w' := by
  have hb1 : Below W.heap.size W (W.alloc (Obj.cells #[.int .i64 2, .string t, .slice A1 a c1, .slice A2 b c2] 25)) := by go_grown
  have HR := Lib.hid (HR0.on hb1)
  have HK1 := Lib.hid (BKept.below hb1)
  clear hb1 HR0
  simp only [List.length_cons, List.length_nil] at hl
  go_enter Tryd.func20, Tryd.ntmps20
  go_wp2_with (at_builtin; go_must (refine append_strK HR.out ⟨#[102, 97, 108, 115, 101]⟩ (by show l.length + 5 ≤ _; omega) rfl _ _ rfl rfl rfl ?_; rintro v' w' HR' hK; have HR2 := Lib.hid HR'; have HK2 := Lib.hid (HK1.out.trans hK); clear HR' hK))
  go_ret
  exact ⟨_, rfl, HR2.out, HK2.out⟩
set_option maxRecDepth 100000 in
theorem rp_word3 {w0 W : World} {v : Value} {l : List UInt8} (HR0 : BRow w0 v l W) (t : ByteArray) (A1 A2 : Option Addr) (a c1 b c2 : Nat) (hl : l.length + ([116, 114, 117, 101]).length ≤ 70368744177664) :
    Calls Tryd.prog 20 #[v, .agg #[.int .i64 3, .string t, .slice A1 a c1, .slice A2 b c2]] W fun e w' => ∃ v', e = .returned v' ∧ BRow w0 v' (l ++ [116, 114, 117, 101]) w' ∧ BKept W w' := by
  have hb1 : Below W.heap.size W (W.alloc (Obj.cells #[.int .i64 3, .string t, .slice A1 a c1, .slice A2 b c2] 25)) := by go_grown
  have HR := Lib.hid (HR0.on hb1)
  have HK1 := Lib.hid (BKept.below hb1)
  clear hb1 HR0
  simp only [List.length_cons, List.length_nil] at hl
  go_enter Tryd.func20, Tryd.ntmps20
  go_wp2_with (at_builtin; go_must (refine append_strK HR.out ⟨#[116, 114, 117, 101]⟩ (by show l.length + 4 ≤ _; omega) rfl _ _ rfl rfl rfl ?_; rintro v' w' HR' hK; have HR2 := Lib.hid HR'; have HK2 := Lib.hid (HK1.out.trans hK); clear HR' hK))
  go_ret
  exact ⟨_, rfl, HR2.out, HK2.out⟩
set_option maxRecDepth 100000 in
theorem rp_num {w0 W : World} {v : Value} {l : List UInt8} (HR0 : BRow w0 v l W) (t : ByteArray) (A1 A2 : Option Addr) (a c1 b c2 : Nat) (hl : l.length + (t.data.toList).length ≤ 70368744177664) :
    Calls Tryd.prog 20 #[v, .agg #[.int .i64 4, .string t, .slice A1 a c1, .slice A2 b c2]] W fun e w' => ∃ v', e = .returned v' ∧ BRow w0 v' (l ++ t.data.toList) w' ∧ BKept W w' := by
  have hb1 : Below W.heap.size W (W.alloc (Obj.cells #[.int .i64 4, .string t, .slice A1 a c1, .slice A2 b c2] 25)) := by go_grown
  have HR := Lib.hid (HR0.on hb1)
  have HK1 := Lib.hid (BKept.below hb1)
  clear hb1 HR0
  rw [← Lib.size_eq] at hl
  go_enter Tryd.func20, Tryd.ntmps20
  go_wp2_with (at_builtin; go_must (refine append_strK HR.out t (by omega) rfl _ _ rfl rfl rfl ?_; rintro v' w' HR' hK; have HR2 := Lib.hid HR'; have HK2 := Lib.hid (HK1.out.trans hK); clear HR' hK))
  go_ret
  exact ⟨_, rfl, HR2.out, HK2.out⟩
set_option maxRecDepth 100000 in
theorem rp_str {w0 W : World} {v : Value} {l : List UInt8} (HR0 : BRow w0 v l W) (t : ByteArray) (A1 A2 : Option Addr) (a c1 b c2 : Nat) (hl : l.length + (docQ t).length ≤ 70368744177664) (ht : t.size ≤ 2097152) :
    Calls Tryd.prog 20 #[v, .agg #[.int .i64 5, .string t, .slice A1 a c1, .slice A2 b c2]] W fun e w' => ∃ v', e = .returned v' ∧ BRow w0 v' (l ++ docQ t) w' ∧ BKept W w' := by
  have hb1 : Below W.heap.size W (W.alloc (Obj.cells #[.int .i64 5, .string t, .slice A1 a c1, .slice A2 b c2] 25)) := by go_grown
  have HR := Lib.hid (HR0.on hb1)
  have HK1 := Lib.hid (BKept.below hb1)
  have HQ := Lib.hid (ref_quote t (W.alloc (Obj.cells #[.int .i64 5, .string t, .slice A1 a c1, .slice A2 b c2] 25)) ht)
  have HHL := Lib.hid hl
  clear hb1 HR0 hl
  go_enter Tryd.func20, Tryd.ntmps20
  go_wp2_with (first
    | (go_at_call 35; go_must ((with_reducible refine HQ.out.mono ?_); rintro e' wq ⟨vq, rfl, hq⟩; obtain ⟨gq, cq, rfl, hYq⟩ := brow_full hq (by simp [docQ]); have HRq := Lib.hid (HR.out.on hq.1); have HKq := Lib.hid (HK1.out.trans (BKept.below hq.1)); have HYq := Lib.hid hYq; clear hq hYq))
    | (at_builtin; go_must (refine append_byK HRq.out (docQ t) gq cq HYq.out (by have := HHL.out; omega) rfl _ _ rfl rfl rfl ?_; rintro v' w' HR' hK; have HR2 := Lib.hid HR'; have HK2 := Lib.hid (HKq.out.trans hK); clear HR' hK)))
  go_ret
  exact ⟨_, rfl, HR2.out, HK2.out⟩
def RPrintAt (d : Nat) : Prop := ∀ (w0 W : World) (v : Value) (l : List UInt8) (F : Nat → Prop) (k : Int) (t : ByteArray) (A1 A2 : Option Addr) (n1 c1 n2 c2 : Nat) (x : JV) (n : Nat), BRow w0 v l W → VAt w0 F d ⟨k, t, .slice A1 n1 c1, .slice A2 n2 c2⟩ x → (∀ g, F g → g < w0.heap.size) → soundJ n x = true → BT 2097152 d x → l.length + (printJ d x).length ≤ 70368744177664 →
    Calls Tryd.prog 20 #[v, .agg #[.int .i64 k, .string t, .slice A1 n1 c1, .slice A2 n2 c2]] W fun e w' => ∃ v', e = .returned v' ∧ BRow w0 v' (l ++ printJ d x) w' ∧ BKept W w'
set_option maxHeartbeats 4000000 in
set_option maxRecDepth 100000 in
theorem rp_lists6 {d : Nat} (hI : RPrintAt d) {w0 W : World} {v : Value} {l : List UInt8} (HR0 : BRow w0 v l W) (t : ByteArray) {F : Nat → Prop} {ks : List ByteArray} {xs : List JV} {A1 A2 : Option Addr} {c1 c2 : Nat}
    (hk1 : ∀ (i : Nat) (t : ByteArray), ks[i]? = some t → ∃ g o, A1 = some ⟨g, o, none⟩ ∧ F g ∧ w0.cell? ⟨g, o + i, none⟩ = some (.string t))
    (hx1 : ∀ (i : Nat) (x : JV), xs[i]? = some x → ∃ g o y, A2 = some ⟨g, o, none⟩ ∧ F g ∧ w0.cell? ⟨g, o + i * 4, none⟩ = some (.int .i64 y.k) ∧ w0.cell? ⟨g, o + i * 4 + 1, none⟩ = some (.string y.t) ∧ w0.cell? ⟨g, o + i * 4 + 2, none⟩ = some y.kv ∧ w0.cell? ⟨g, o + i * 4 + 3, none⟩ = some y.lv ∧ VAt w0 F d y x)
    (hF : ∀ g, F g → g < w0.heap.size) (hxs : xs.length ≤ 2097152) (hkm : ∀ k ∈ ks, k.size ≤ 2097152) (hsm : ∀ x ∈ xs, BT 2097152 d x) (n : Nat) (hsn : ∀ x ∈ xs, soundJ n x = true) (hkv : ∀ k ∈ ks, Lib.validD k.data.toList = true) (hkx : True)
    (hl : l.length + ([91] ++ (partsJ (printJ d) false ks 0 xs ++ [93])).length ≤ 70368744177664) :
    Calls Tryd.prog 20 #[v, .agg #[.int .i64 6, .string t, .slice A1 ks.length c1, .slice A2 xs.length c2]] W fun e w' => ∃ v', e = .returned v' ∧ BRow w0 v' (l ++ ([91] ++ (partsJ (printJ d) false ks 0 xs ++ [93]))) w' ∧ BKept W w' := by
  obtain ⟨tx, htx⟩ : ∃ x, x = l ++ ([91] ++ (partsJ (printJ d) false ks 0 xs ++ [93])) := ⟨_, rfl⟩
  rw [← htx]
  have HTXT := Lib.hid htx
  clear htx
  have hb1 : Below W.heap.size W (W.alloc (Obj.cells #[.int .i64 6, .string t, .slice A1 ks.length c1, .slice A2 xs.length c2] 25)) := by go_grown
  have HX := Lib.hid (heap_alloc_new W (Obj.cells #[.int .i64 6, .string t, .slice A1 ks.length c1, .slice A2 xs.length c2] 25))
  have HR := Lib.hid (HR0.on hb1)
  have HKB := Lib.hid (BKept.below hb1)
  have HKR := Lib.hid (BKept.refl (W.alloc (Obj.cells #[.int .i64 6, .string t, .slice A1 ks.length c1, .slice A2 xs.length c2] 25)))
  have HLL := Lib.hid hl
  have hl1 : l.length + 1 ≤ 70368744177664 := by simp only [List.length_append, List.length_cons, List.length_nil] at hl; omega
  have IH := Lib.hid hI
  have HK1 := Lib.hid hk1
  have HX1 := Lib.hid hx1
  have HF := Lib.hid hF
  have HKM := Lib.hid hkm
  have HSM := Lib.hid hsm
  have HSS := Lib.hid hsn
  have HKV := Lib.hid hkv
  have HKX := Lib.hid hkx
  clear hb1 HR0 hl hI hk1 hx1 hF hkm hsm hsn hkv hkx
  go_enter Tryd.func20, Tryd.ntmps20
  go_upto_region 17 with (fail)
  generalize W.alloc (Obj.cells #[.int .i64 6, .string t, .slice A1 ks.length c1, .slice A2 xs.length c2] 25) = W1 at *
  go_wp2_with (at_builtin; go_must (refine append_byK (HR.out.on (Joins.below_alloc1 _ _)) [91] _ 1 (bytes_lit (s := [91]) rfl) (by simp only [List.length_cons, List.length_nil]; omega) rfl _ _ rfl rfl rfl ?_; rintro v1 w1 HR' hK; have HR1 := Lib.hid HR'; have HKF := Lib.hid (HKR.out.trans ((BKept.below (Joins.below_alloc1 _ _)).trans hK)); clear HR' hK))
  go_loopw [0, 7] (fun vv i wr => ∃ (j : Nat) (l0 : List UInt8), i = .int .i64 j ∧ j ≤ xs.length ∧ l0.length ≤ 70368744177664 ∧ Hid (l0 = l ++ ([91] ++ partsJ (printJ d) false ks 0 (xs.take j))) ∧ Hid (BRow w0 vv l0 wr) ∧ Hid (BKept W1 wr)) (fun _ i _ => xs.length - (RowKit.intOf i).toNat)
  case atStart => exact ⟨0, _, rfl, Nat.zero_le _, by simp only [List.length_append, List.length_cons, List.length_nil]; omega, Lib.hid (by simp [partsJ]), HR1.out, HKF.out⟩
  case round =>
    rename_i vv
    obtain ⟨j, l0, rfl, hj, hll, HL, HRW, HKW⟩ := hrel
    have hxw := HKW.out.cells HX.out (by decide)
    have q0 := blk_cell hxw 0
    have q1 := blk_cell hxw 1
    have q2 := blk_cell hxw 2
    have q3 := blk_cell hxw 3
    simp only [List.getElem?_toArray, List.getElem?_cons_zero, List.getElem?_cons_succ] at q0 q1 q2 q3
    clear hxw
    by_cases hlt : j < xs.length
    · have hl : (j : Int) < (xs.length : Int) := by omega
      have hl0 : (0 : Int) ≤ (j : Int) := by omega
      obtain ⟨x, hx⟩ : ∃ x, xs[j]? = some x := ⟨xs[j], List.getElem?_eq_getElem hlt⟩
      obtain ⟨ga, oa, ⟨y1k, y1t, y1v, y1l⟩, hAe, hga, a0, a1, a2, a3, hv1⟩ := HX1.out j x hx
      obtain ⟨e, he⟩ := hv1.pos
      have hs1 := VAt.slices (he ▸ hv1)
      obtain ⟨P1, pn, pc, P2, pm, pe, rfl, rfl⟩ := hs1
      simp only at a0 a1 a2 a3
      have hat := parts_take (printJ d) false ks hx
      have htl : l.length + ([91] ++ partsJ (printJ d) false ks 0 (xs.take (j + 1))).length ≤ 70368744177664 := by
        have h1 := parts_len (printJ d) false ks xs (j + 1)
        have h2 := HLL.out
        simp only [List.length_append, List.length_cons, List.length_nil] at h2 ⊢
        omega
      have hmem := List.mem_of_getElem? hx
      have HXS : Hid (∀ W', Below w0.heap.size w0 W' → W'.cell? ⟨ga, oa + j * 4, none⟩ = some (.int .i64 y1k) ∧ W'.cell? ⟨ga, oa + j * 4 + 1, none⟩ = some (.string y1t) ∧ W'.cell? ⟨ga, oa + j * 4 + 2, none⟩ = some (.slice P1 pn pc) ∧ W'.cell? ⟨ga, oa + j * 4 + 3, none⟩ = some (.slice P2 pm pe)) := fun W' hb =>
        have ha := hb.block ga (HF.out ga hga)
        ⟨(cell_keep ha _).trans a0, (cell_keep ha _).trans a1, (cell_keep ha _).trans a2, (cell_keep ha _).trans a3⟩
      have HV := Lib.hid hv1
      have HSN := Lib.hid (HSS.out x hmem)
      have HBX := Lib.hid (HSM.out x hmem)
      subst hAe
      rcases Nat.eq_zero_or_pos j with hj0 | hj0
      · have hpr : l0 ++ printJ d x = l ++ ([91] ++ partsJ (printJ d) false ks 0 (xs.take (j + 1))) := by
          rw [HL.out, hat, partJ, if_neg (by omega)]
          simp
        have hlen := congrArg List.length hpr
        have hnl : (l0 ++ printJ d x).length ≤ 70368744177664 := by rw [hlen, List.length_append]; exact htl
        have HPR := Lib.hid hpr
        have HNL := Lib.hid hnl
        have HTL : Hid (l0.length + (printJ d x).length ≤ 70368744177664) := by simp only [List.length_append] at hnl; exact Lib.hid (by omega)
        skip
        have hj1 : ¬ (0 : Int) < (j : Int) := by omega
        have hj2 : ¬ 0 < j := by omega
        clear hx a0 a1 a2 a3 hv1 he hga hat htl hmem hpr hlen hnl hj0
        obtain ⟨m0, m1, m2, m3⟩ := HXS.out _ HRW.out.1
        have HP := Lib.hid (IH.out w0 _ _ _ F y1k y1t P1 P2 pn pc pm pe x n HRW.out HV.out HF.out HSN.out HBX.out (by have := HTL.out; (try simp only [List.length_append, List.length_cons, List.length_nil]); omega))
        go_wp2_with (go_at_call 20; go_must ((with_reducible refine HP.out.mono ?_); rintro e' wz ⟨vz, rfl, hz, hKz⟩; have HZ := Lib.hid hz; have HKz := Lib.hid (HKW.out.trans hKz); clear hz hKz))
        exact ⟨⟨j + 1, _, by go_num, by omega, HNL.out, Lib.hid (by rw [HPR.out]), HZ.out, HKz.out⟩, by simp [RowKit.intOf]; omega⟩
      · have hpr : l0 ++ [44] ++ printJ d x = l ++ ([91] ++ partsJ (printJ d) false ks 0 (xs.take (j + 1))) := by
          rw [HL.out, hat, partJ, if_pos hj0]
          simp
        have hlen := congrArg List.length hpr
        have hnl : (l0 ++ [44] ++ printJ d x).length ≤ 70368744177664 := by rw [hlen, List.length_append]; exact htl
        have HPR := Lib.hid hpr
        have HNL := Lib.hid hnl
        have HTL : Hid (l0.length + 1 + (printJ d x).length ≤ 70368744177664) := by simp only [List.length_append, List.length_cons, List.length_nil] at hnl; exact Lib.hid (by omega)
        skip
        have hj1 : (0 : Int) < (j : Int) := by omega
        clear hx a0 a1 a2 a3 hv1 he hga hat htl hmem hpr hlen hnl
        go_upto_region 23 with (at_builtin; go_must (refine append_byK (HRW.out.on (Joins.below_alloc1 _ _)) [44] _ 1 (bytes_lit (s := [44]) rfl) (by simp only [List.length_cons, List.length_nil]; omega) rfl _ _ rfl rfl rfl ?_; rintro va wa HR' hK; have HRa := Lib.hid HR'; have HKa := Lib.hid (HKW.out.trans ((BKept.below (Joins.below_alloc1 _ _)).trans hK)); clear HR' hK))
        clear q0 q1 q2 q3
        have hxa := HKa.out.cells HX.out (by decide); have q0 := blk_cell hxa 0; have q1 := blk_cell hxa 1; have q2 := blk_cell hxa 2; have q3 := blk_cell hxa 3; simp only [List.getElem?_toArray, List.getElem?_cons_zero, List.getElem?_cons_succ] at q0 q1 q2 q3
        clear hxa
        obtain ⟨m0, m1, m2, m3⟩ := HXS.out _ HRa.out.1
        have HP := Lib.hid (IH.out w0 _ _ _ F y1k y1t P1 P2 pn pc pm pe x n HRa.out HV.out HF.out HSN.out HBX.out (by have := HTL.out; (try simp only [List.length_append, List.length_cons, List.length_nil]); omega))
        go_wp2_with (go_at_call 20; go_must ((with_reducible refine HP.out.mono ?_); rintro e' wz ⟨vz, rfl, hz, hKz⟩; have HZ := Lib.hid hz; have HKz := Lib.hid (HKa.out.trans hKz); clear hz hKz))
        exact ⟨⟨j + 1, _, by go_num, by omega, HNL.out, Lib.hid (by rw [HPR.out]), HZ.out, HKz.out⟩, by simp [RowKit.intOf]; omega⟩
    · have hl : ¬ (j : Int) < (xs.length : Int) := by omega
      have hfin : l0 ++ [93] = tx := by
        rw [HTXT.out, HL.out, List.take_of_length_le (by omega)]
        simp
      have hnl : l0.length + 1 ≤ 70368744177664 + 1 := by omega
      have HFIN := Lib.hid hfin
      clear hfin
      go_wp2_with (at_builtin; go_must (refine append_byK (HRW.out.on (Joins.below_alloc1 _ _)) [93] _ 1 (bytes_lit (s := [93]) rfl) (by simp only [List.length_cons, List.length_nil]; omega) rfl _ _ rfl rfl rfl ?_; rintro vz wz HR' hK; have HRz := Lib.hid HR'; have HKz := Lib.hid (HKW.out.trans ((BKept.below (Joins.below_alloc1 _ _)).trans hK)); clear HR' hK))
      go_ret
      exact ⟨_, rfl, by rw [← HFIN.out]; exact HRz.out, HKB.out.trans HKz.out⟩
set_option maxHeartbeats 4000000 in
set_option maxRecDepth 100000 in
theorem rp_lists7 {d : Nat} (hI : RPrintAt d) {w0 W : World} {v : Value} {l : List UInt8} (HR0 : BRow w0 v l W) (t : ByteArray) {F : Nat → Prop} {ks : List ByteArray} {xs : List JV} {A1 A2 : Option Addr} {c1 c2 : Nat}
    (hk1 : ∀ (i : Nat) (t : ByteArray), ks[i]? = some t → ∃ g o, A1 = some ⟨g, o, none⟩ ∧ F g ∧ w0.cell? ⟨g, o + i, none⟩ = some (.string t))
    (hx1 : ∀ (i : Nat) (x : JV), xs[i]? = some x → ∃ g o y, A2 = some ⟨g, o, none⟩ ∧ F g ∧ w0.cell? ⟨g, o + i * 4, none⟩ = some (.int .i64 y.k) ∧ w0.cell? ⟨g, o + i * 4 + 1, none⟩ = some (.string y.t) ∧ w0.cell? ⟨g, o + i * 4 + 2, none⟩ = some y.kv ∧ w0.cell? ⟨g, o + i * 4 + 3, none⟩ = some y.lv ∧ VAt w0 F d y x)
    (hF : ∀ g, F g → g < w0.heap.size) (hxs : xs.length ≤ 2097152) (hkm : ∀ k ∈ ks, k.size ≤ 2097152) (hsm : ∀ x ∈ xs, BT 2097152 d x) (n : Nat) (hsn : ∀ x ∈ xs, soundJ n x = true) (hkv : ∀ k ∈ ks, Lib.validD k.data.toList = true) (hkx : ks.length = xs.length)
    (hl : l.length + ([123] ++ (partsJ (printJ d) true ks 0 xs ++ [125])).length ≤ 70368744177664) :
    Calls Tryd.prog 20 #[v, .agg #[.int .i64 7, .string t, .slice A1 ks.length c1, .slice A2 xs.length c2]] W fun e w' => ∃ v', e = .returned v' ∧ BRow w0 v' (l ++ ([123] ++ (partsJ (printJ d) true ks 0 xs ++ [125]))) w' ∧ BKept W w' := by
  obtain ⟨tx, htx⟩ : ∃ x, x = l ++ ([123] ++ (partsJ (printJ d) true ks 0 xs ++ [125])) := ⟨_, rfl⟩
  rw [← htx]
  have HTXT := Lib.hid htx
  clear htx
  have hb1 : Below W.heap.size W (W.alloc (Obj.cells #[.int .i64 7, .string t, .slice A1 ks.length c1, .slice A2 xs.length c2] 25)) := by go_grown
  have HX := Lib.hid (heap_alloc_new W (Obj.cells #[.int .i64 7, .string t, .slice A1 ks.length c1, .slice A2 xs.length c2] 25))
  have HR := Lib.hid (HR0.on hb1)
  have HKB := Lib.hid (BKept.below hb1)
  have HKR := Lib.hid (BKept.refl (W.alloc (Obj.cells #[.int .i64 7, .string t, .slice A1 ks.length c1, .slice A2 xs.length c2] 25)))
  have HLL := Lib.hid hl
  have hl1 : l.length + 1 ≤ 70368744177664 := by simp only [List.length_append, List.length_cons, List.length_nil] at hl; omega
  have IH := Lib.hid hI
  have HK1 := Lib.hid hk1
  have HX1 := Lib.hid hx1
  have HF := Lib.hid hF
  have HKM := Lib.hid hkm
  have HSM := Lib.hid hsm
  have HSS := Lib.hid hsn
  have HKV := Lib.hid hkv
  have HKX := Lib.hid hkx
  clear hb1 HR0 hl hI hk1 hx1 hF hkm hsm hsn hkv hkx
  go_enter Tryd.func20, Tryd.ntmps20
  go_upto_region 17 with (fail)
  generalize W.alloc (Obj.cells #[.int .i64 7, .string t, .slice A1 ks.length c1, .slice A2 xs.length c2] 25) = W1 at *
  go_wp2_with (at_builtin; go_must (refine append_byK (HR.out.on (Joins.below_alloc1 _ _)) [123] _ 1 (bytes_lit (s := [123]) rfl) (by simp only [List.length_cons, List.length_nil]; omega) rfl _ _ rfl rfl rfl ?_; rintro v1 w1 HR' hK; have HR1 := Lib.hid HR'; have HKF := Lib.hid (HKR.out.trans ((BKept.below (Joins.below_alloc1 _ _)).trans hK)); clear HR' hK))
  go_loopw [0, 7] (fun vv i wr => ∃ (j : Nat) (l0 : List UInt8), i = .int .i64 j ∧ j ≤ xs.length ∧ l0.length ≤ 70368744177664 ∧ Hid (l0 = l ++ ([123] ++ partsJ (printJ d) true ks 0 (xs.take j))) ∧ Hid (BRow w0 vv l0 wr) ∧ Hid (BKept W1 wr)) (fun _ i _ => xs.length - (RowKit.intOf i).toNat)
  case atStart => exact ⟨0, _, rfl, Nat.zero_le _, by simp only [List.length_append, List.length_cons, List.length_nil]; omega, Lib.hid (by simp [partsJ]), HR1.out, HKF.out⟩
  case round =>
    rename_i vv
    obtain ⟨j, l0, rfl, hj, hll, HL, HRW, HKW⟩ := hrel
    have hxw := HKW.out.cells HX.out (by decide)
    have q0 := blk_cell hxw 0
    have q1 := blk_cell hxw 1
    have q2 := blk_cell hxw 2
    have q3 := blk_cell hxw 3
    simp only [List.getElem?_toArray, List.getElem?_cons_zero, List.getElem?_cons_succ] at q0 q1 q2 q3
    clear hxw
    by_cases hlt : j < xs.length
    · have hl : (j : Int) < (xs.length : Int) := by omega
      have hl0 : (0 : Int) ≤ (j : Int) := by omega
      obtain ⟨x, hx⟩ : ∃ x, xs[j]? = some x := ⟨xs[j], List.getElem?_eq_getElem hlt⟩
      obtain ⟨ga, oa, ⟨y1k, y1t, y1v, y1l⟩, hAe, hga, a0, a1, a2, a3, hv1⟩ := HX1.out j x hx
      obtain ⟨e, he⟩ := hv1.pos
      have hs1 := VAt.slices (he ▸ hv1)
      obtain ⟨P1, pn, pc, P2, pm, pe, rfl, rfl⟩ := hs1
      simp only at a0 a1 a2 a3
      obtain ⟨u, hu⟩ : ∃ u, ks[j]? = some u := ⟨ks[j]'(by have := HKX.out; omega), List.getElem?_eq_getElem _⟩
      obtain ⟨gk, ok, hAk, hgk, ck⟩ := HK1.out j u hu
      have hmk := List.mem_of_getElem? hu
      have hus := HKM.out u hmk
      have hud := docQ_eq (HKV.out u hmk)
      have HDQ := Lib.hid hud
      have hgu : ks.getD j ⟨#[]⟩ = u := by rw [List.getD_eq_getElem?_getD, hu]; rfl
      have hkj : (j : Int) < (ks.length : Int) := by have := (List.getElem?_eq_some_iff.1 hu).1; omega
      have HSK : Hid (∀ W', Below w0.heap.size w0 W' → W'.cell? ⟨gk, ok + j, none⟩ = some (.string u)) := fun W' hb => (cell_keep (hb.block gk (HF.out gk hgk)) _).trans ck
      subst hAk
      have hat := parts_take (printJ d) true ks hx
      have htl : l.length + ([123] ++ partsJ (printJ d) true ks 0 (xs.take (j + 1))).length ≤ 70368744177664 := by
        have h1 := parts_len (printJ d) true ks xs (j + 1)
        have h2 := HLL.out
        simp only [List.length_append, List.length_cons, List.length_nil] at h2 ⊢
        omega
      have hmem := List.mem_of_getElem? hx
      have HXS : Hid (∀ W', Below w0.heap.size w0 W' → W'.cell? ⟨ga, oa + j * 4, none⟩ = some (.int .i64 y1k) ∧ W'.cell? ⟨ga, oa + j * 4 + 1, none⟩ = some (.string y1t) ∧ W'.cell? ⟨ga, oa + j * 4 + 2, none⟩ = some (.slice P1 pn pc) ∧ W'.cell? ⟨ga, oa + j * 4 + 3, none⟩ = some (.slice P2 pm pe)) := fun W' hb =>
        have ha := hb.block ga (HF.out ga hga)
        ⟨(cell_keep ha _).trans a0, (cell_keep ha _).trans a1, (cell_keep ha _).trans a2, (cell_keep ha _).trans a3⟩
      have HV := Lib.hid hv1
      have HSN := Lib.hid (HSS.out x hmem)
      have HBX := Lib.hid (HSM.out x hmem)
      subst hAe
      rcases Nat.eq_zero_or_pos j with hj0 | hj0
      · have hpr : l0 ++ docQ u ++ [58] ++ printJ d x = l ++ ([123] ++ partsJ (printJ d) true ks 0 (xs.take (j + 1))) := by
          rw [HL.out, hat, partJ, if_neg (by omega), hgu, hud]
          simp
        have hlen := congrArg List.length hpr
        have hnl : (l0 ++ docQ u ++ [58] ++ printJ d x).length ≤ 70368744177664 := by rw [hlen, List.length_append]; exact htl
        have HPR := Lib.hid hpr
        have HNL := Lib.hid hnl
        have HTL : Hid (l0.length + ((docQ u).length + 1) + (printJ d x).length ≤ 70368744177664) := by simp only [List.length_append, List.length_cons, List.length_nil] at hnl; exact Lib.hid (by omega)
        have HUL : Hid (l0.length + (docQ u).length + 1 + (printJ d x).length ≤ 70368744177664) := Lib.hid (by have := HTL.out; omega)
        have hj1 : ¬ (0 : Int) < (j : Int) := by omega
        have hj2 : ¬ 0 < j := by omega
        clear hx a0 a1 a2 a3 hv1 he hga hat htl hmem hpr hlen hnl hj0 hu ck hmk hud hgu hgk
        have HQ := Lib.hid (fun W' => ref_quote u W' hus)
        have s1 := HSK.out _ HRW.out.1
        go_upto_region 25 with (first
          | (go_at_call 35; go_must ((with_reducible refine (HQ.out _).mono ?_); rintro e' wq ⟨vq, rfl, hq⟩; obtain ⟨gq, cq, rfl, hYq⟩ := brow_full hq (by simp [docQ]); have HRq := Lib.hid (HRW.out.on hq.1); have HKq := Lib.hid (HKW.out.trans (BKept.below hq.1)); have HYq := Lib.hid hYq; clear hq hYq))
          | (at_builtin; go_must (refine append_byK HRq.out (docQ u) gq cq HYq.out (by have := HUL.out; (try simp only [List.length_append, List.length_cons, List.length_nil]); omega) rfl _ _ rfl rfl rfl ?_; rintro vb wb HR' hK; have HRb := Lib.hid HR'; have HKb := Lib.hid (HKq.out.trans hK); clear HR' hK)))
        clear q0 q1 q2 q3 s1
        have hul := HUL.out
        go_upto_region 26 with (at_builtin; go_must (refine append_byK (HRb.out.on (Joins.below_alloc1 _ _)) [58] _ 1 (bytes_lit (s := [58]) rfl) (by simp only [List.length_append, List.length_cons, List.length_nil]; omega) rfl _ _ rfl rfl rfl ?_; rintro vc wc HR' hK; have HRc := Lib.hid HR'; have HKc := Lib.hid (HKb.out.trans ((BKept.below (Joins.below_alloc1 _ _)).trans hK)); clear HR' hK))
        clear hul
        have hxc := HKc.out.cells HX.out (by decide); have q0 := blk_cell hxc 0; have q1 := blk_cell hxc 1; have q2 := blk_cell hxc 2; have q3 := blk_cell hxc 3; simp only [List.getElem?_toArray, List.getElem?_cons_zero, List.getElem?_cons_succ] at q0 q1 q2 q3
        clear hxc
        obtain ⟨m0, m1, m2, m3⟩ := HXS.out _ HRc.out.1
        have HP := Lib.hid (IH.out w0 _ _ _ F y1k y1t P1 P2 pn pc pm pe x n HRc.out HV.out HF.out HSN.out HBX.out (by have := HTL.out; (try simp only [List.length_append, List.length_cons, List.length_nil]); have := HUL.out; omega))
        go_wp2_with (go_at_call 20; go_must ((with_reducible refine HP.out.mono ?_); rintro e' wz ⟨vz, rfl, hz, hKz⟩; have HZ := Lib.hid hz; have HKz := Lib.hid (HKc.out.trans hKz); clear hz hKz))
        exact ⟨⟨j + 1, _, by go_num, by omega, HNL.out, Lib.hid (by rw [HPR.out]), HZ.out, HKz.out⟩, by simp [RowKit.intOf]; omega⟩
      · have hpr : l0 ++ [44] ++ docQ u ++ [58] ++ printJ d x = l ++ ([123] ++ partsJ (printJ d) true ks 0 (xs.take (j + 1))) := by
          rw [HL.out, hat, partJ, if_pos hj0, hgu, hud]
          simp
        have hlen := congrArg List.length hpr
        have hnl : (l0 ++ [44] ++ docQ u ++ [58] ++ printJ d x).length ≤ 70368744177664 := by rw [hlen, List.length_append]; exact htl
        have HPR := Lib.hid hpr
        have HNL := Lib.hid hnl
        have HTL : Hid (l0.length + 1 + ((docQ u).length + 1) + (printJ d x).length ≤ 70368744177664) := by simp only [List.length_append, List.length_cons, List.length_nil] at hnl; exact Lib.hid (by omega)
        have HUL : Hid (l0.length + 1 + (docQ u).length + 1 + (printJ d x).length ≤ 70368744177664) := Lib.hid (by have := HTL.out; omega)
        have hj1 : (0 : Int) < (j : Int) := by omega
        clear hx a0 a1 a2 a3 hv1 he hga hat htl hmem hpr hlen hnl hu ck hmk hud hgu hgk
        go_upto_region 23 with (at_builtin; go_must (refine append_byK (HRW.out.on (Joins.below_alloc1 _ _)) [44] _ 1 (bytes_lit (s := [44]) rfl) (by simp only [List.length_cons, List.length_nil]; omega) rfl _ _ rfl rfl rfl ?_; rintro va wa HR' hK; have HRa := Lib.hid HR'; have HKa := Lib.hid (HKW.out.trans ((BKept.below (Joins.below_alloc1 _ _)).trans hK)); clear HR' hK))
        clear q0 q1 q2 q3
        have hxa := HKa.out.cells HX.out (by decide); have q0 := blk_cell hxa 0; have q1 := blk_cell hxa 1; have q2 := blk_cell hxa 2; have q3 := blk_cell hxa 3; simp only [List.getElem?_toArray, List.getElem?_cons_zero, List.getElem?_cons_succ] at q0 q1 q2 q3
        clear hxa
        have HQ := Lib.hid (fun W' => ref_quote u W' hus)
        have s1 := HSK.out _ HRa.out.1
        go_upto_region 25 with (first
          | (go_at_call 35; go_must ((with_reducible refine (HQ.out _).mono ?_); rintro e' wq ⟨vq, rfl, hq⟩; obtain ⟨gq, cq, rfl, hYq⟩ := brow_full hq (by simp [docQ]); have HRq := Lib.hid (HRa.out.on hq.1); have HKq := Lib.hid (HKa.out.trans (BKept.below hq.1)); have HYq := Lib.hid hYq; clear hq hYq))
          | (at_builtin; go_must (refine append_byK HRq.out (docQ u) gq cq HYq.out (by have := HUL.out; (try simp only [List.length_append, List.length_cons, List.length_nil]); omega) rfl _ _ rfl rfl rfl ?_; rintro vb wb HR' hK; have HRb := Lib.hid HR'; have HKb := Lib.hid (HKq.out.trans hK); clear HR' hK)))
        clear q0 q1 q2 q3 s1
        have hul := HUL.out
        go_upto_region 26 with (at_builtin; go_must (refine append_byK (HRb.out.on (Joins.below_alloc1 _ _)) [58] _ 1 (bytes_lit (s := [58]) rfl) (by simp only [List.length_append, List.length_cons, List.length_nil]; omega) rfl _ _ rfl rfl rfl ?_; rintro vc wc HR' hK; have HRc := Lib.hid HR'; have HKc := Lib.hid (HKb.out.trans ((BKept.below (Joins.below_alloc1 _ _)).trans hK)); clear HR' hK))
        clear hul
        have hxc := HKc.out.cells HX.out (by decide); have q0 := blk_cell hxc 0; have q1 := blk_cell hxc 1; have q2 := blk_cell hxc 2; have q3 := blk_cell hxc 3; simp only [List.getElem?_toArray, List.getElem?_cons_zero, List.getElem?_cons_succ] at q0 q1 q2 q3
        clear hxc
        obtain ⟨m0, m1, m2, m3⟩ := HXS.out _ HRc.out.1
        have HP := Lib.hid (IH.out w0 _ _ _ F y1k y1t P1 P2 pn pc pm pe x n HRc.out HV.out HF.out HSN.out HBX.out (by have := HTL.out; (try simp only [List.length_append, List.length_cons, List.length_nil]); have := HUL.out; omega))
        go_wp2_with (go_at_call 20; go_must ((with_reducible refine HP.out.mono ?_); rintro e' wz ⟨vz, rfl, hz, hKz⟩; have HZ := Lib.hid hz; have HKz := Lib.hid (HKc.out.trans hKz); clear hz hKz))
        exact ⟨⟨j + 1, _, by go_num, by omega, HNL.out, Lib.hid (by rw [HPR.out]), HZ.out, HKz.out⟩, by simp [RowKit.intOf]; omega⟩
    · have hl : ¬ (j : Int) < (xs.length : Int) := by omega
      have hfin : l0 ++ [125] = tx := by
        rw [HTXT.out, HL.out, List.take_of_length_le (by omega)]
        simp
      have hnl : l0.length + 1 ≤ 70368744177664 + 1 := by omega
      have HFIN := Lib.hid hfin
      clear hfin
      go_wp2_with (at_builtin; go_must (refine append_byK (HRW.out.on (Joins.below_alloc1 _ _)) [125] _ 1 (bytes_lit (s := [125]) rfl) (by simp only [List.length_cons, List.length_nil]; omega) rfl _ _ rfl rfl rfl ?_; rintro vz wz HR' hK; have HRz := Lib.hid HR'; have HKz := Lib.hid (HKW.out.trans ((BKept.below (Joins.below_alloc1 _ _)).trans hK)); clear HR' hK))
      go_ret
      exact ⟨_, rfl, by rw [← HFIN.out]; exact HRz.out, HKB.out.trans HKz.out⟩
theorem rprint_any : ∀ d : Nat, RPrintAt d
  | 0 => fun _ _ _ _ _ _ _ _ _ _ _ _ _ _ _ _ h => h.elim
  | d + 1 => fun w0 W v l F k t A1 A2 n1 c1 n2 c2 x n HR hV hF hS hB hL => by
    have IH := rprint_any d
    have hWJ := wj_of (d + 1) n x hS
    obtain ⟨k', t', ks, xs⟩ := x
    obtain ⟨e1, e2, ⟨B1, b1, e3, hc1, hk1⟩, B2, b2, e4, hc2, hx1⟩ := hV
    simp only [Value.slice.injEq] at e1 e2 e3 e4
    obtain ⟨rfl, rfl, rfl⟩ := e3
    obtain ⟨rfl, rfl, rfl⟩ := e4
    subst e1 e2
    obtain ⟨h7, hkd, -⟩ := hWJ
    obtain ⟨ht, hkm, hks, hxs, hsm⟩ := hB
    have hh : ∃ wi, headJ k' t' ks.length xs.length wi = true ∧ (wi = true → ∃ m, (∀ k ∈ ks, Lib.validD k.data.toList = true) ∧ ∀ x ∈ xs, soundJ m x = true) := by
      cases n with
      | zero => exact ⟨false, hS, fun h => by cases h⟩
      | succ m =>
        refine ⟨_, hS, fun hw => ⟨m, ?_⟩⟩
        rw [Bool.and_eq_true, List.all_eq_true, List.all_eq_true] at hw
        exact hw
    obtain ⟨wi, hd, hw⟩ := hh
    rcases hkd with (rfl | rfl | rfl | rfl | rfl) | rfl | rfl
    · exact rp_word1 HR t' A1 A2 _ c1 _ c2 hL
    · exact rp_word2 HR t' A1 A2 _ c1 _ c2 hL
    · exact rp_word3 HR t' A1 A2 _ c1 _ c2 hL
    · exact rp_num HR t' A1 A2 _ c1 _ c2 hL
    · have hv : Lib.validD t'.data.toList = true := by
        unfold headJ at hd
        rw [if_neg (by omega), if_neg (by omega), if_pos rfl, Bool.and_eq_true] at hd
        exact hd.1
      have e : printJ (d + 1) (.mk 5 t' ks xs) = docQ t' := (docQ_eq hv).symm
      rw [e] at hL ⊢
      exact rp_str HR t' A1 A2 _ c1 _ c2 hL ht
    · have hwi : wi = true := by
        unfold headJ at hd
        rw [if_neg (by omega), if_neg (by omega), if_neg (by omega), if_pos rfl, Bool.and_eq_true, Bool.and_eq_true] at hd
        exact hd.2.2
      obtain ⟨m, hkv, hsn⟩ := hw hwi
      exact rp_lists6 IH HR t' hk1 hx1 hF hxs hkm hsm m hsn hkv trivial hL
    · have hwi : wi = true := by
        unfold headJ at hd
        rw [if_neg (by omega), if_neg (by omega), if_neg (by omega), if_neg (by omega), if_pos rfl, Bool.and_eq_true, Bool.and_eq_true] at hd
        exact hd.2.2
      obtain ⟨m, hkv, hsn⟩ := hw hwi
      exact rp_lists7 IH HR t' hk1 hx1 hF hxs hkm hsm m hsn hkv (h7 rfl) hL
end Go.Proofs.YtmjooghfghmngaaDoor
