/- The document's Open. -/
import Derived.Test.YtdnfijhclikkfaaDoorFRefS
import Derived.Maps.AppendAt
namespace Go.Proofs.YtdnfijhclikkfaaDoor
open Go.RowKit Go.Lib

section
variable {P : Program} {ops : Array Oper} {Q : Exit → Act → World → Prop} {md : Region.Mode} {S : World → Prop}
/-- An operation that isn't wanted is passed over: it may come up now. -/
theorem takeNone {i : Nat} {oi : Oper} {fuel : Nat} {listed : Array Bool} {a : Act} {w : World} (hr : (Region.ready md ops listed).contains i = true) (hi : ops[i]? = some oi)
    (hw : Region.wanted oi (yielded ops a.tmps) = false) (hf : Region.free md ops listed i = true) (hs : Region.noSelect ops = true)
    (hQ : ∀ c a w, Q (.panic c) (a.put oi.dst undef) w → Q (.panic c) a w) (hS : S w)
    (h : wpAnyH P md ops Q S fuel (listed.setIfInBounds i true) (a.put oi.dst undef) w) : wpAnyH P md ops Q S (fuel + 1) listed a w :=
  wpAnyH_take hi hs hf hr hQ (.inr ⟨hw, rfl⟩) hS h
/-- An operation that yields its value under S is taken first. -/
theorem takeSome {i : Nat} {oi : Oper} {v : Value} {fuel : Nat} {listed : Array Bool} {a : Act} {w : World} (hr : (Region.ready md ops listed).contains i = true) (hi : ops[i]? = some oi)
    (hw : Region.wanted oi (yielded ops a.tmps) = true) (hf : Region.free md ops listed i = true) (hs : Region.noSelect ops = true)
    (hQ : ∀ c a w, Q (.panic c) (a.put oi.dst v) w → Q (.panic c) a w) (hS : S w) (hy : ∀ w, S w → (execOp a.eval oi).run P w = .ok (.value v) w)
    (h : wpAnyH P md ops Q S fuel (listed.setIfInBounds i true) (a.put oi.dst v) w) : wpAnyH P md ops Q S (fuel + 1) listed a w :=
  wpAnyH_take hi hs hf hr hQ (.inl ⟨hw, hy⟩) hS h
theorem tZ (i : Nat) {oi : Oper} {v : Value} {fuel : Nat} {listed : Array Bool} {a a' : Act} {w : World}
    (h : wpAnyH P md ops Q S fuel (listed.setIfInBounds i true) a' w)
    (hr : (Region.ready md ops listed).contains i = true := by decide +kernel) (hi : ops[i]? = some oi := by rfl) (hw : Region.wanted oi (yielded ops a.tmps) = true := by rfl)
    (hf : Region.free md ops listed i = true := by decide +kernel) (hs : Region.noSelect ops = true := by decide +kernel) (hQ : ∀ c a w, Q (.panic c) (a.put oi.dst v) w → Q (.panic c) a w := by exact fun _ _ _ h => h) (hS : S w := by assumption)
    (hy : ∀ w, S w → (execOp a.eval oi).run P w = .ok (.value v) w := by intro w0 hSw; (try dsimp only at hSw); go_simp; (try (with_reducible rfl)); done) (ha : a.put oi.dst v = a' := by (try simp only [Act.put, jA, jB, jC, jD, jE, jF]) <;> rfl) : wpAnyH P md ops Q S (fuel + 1) listed a w :=
  wpAnyH_take hi hs hf hr hQ (.inl ⟨hw, hy⟩) hS (ha ▸ h)
theorem pZ (i : Nat) {oi : Oper} {fuel : Nat} {listed : Array Bool} {a a' : Act} {w : World}
    (h : wpAnyH P md ops Q S fuel (listed.setIfInBounds i true) a' w)
    (hr : (Region.ready md ops listed).contains i = true := by decide +kernel) (hi : ops[i]? = some oi := by rfl) (hw : Region.wanted oi (yielded ops a.tmps) = false := by rfl)
    (hf : Region.free md ops listed i = true := by decide +kernel) (hs : Region.noSelect ops = true := by decide +kernel) (hQ : ∀ c a w, Q (.panic c) (a.put oi.dst undef) w → Q (.panic c) a w := by exact fun _ _ _ h => h) (hS : S w := by assumption) (ha : a.put oi.dst undef = a' := by (try simp only [Act.put, jA, jB, jC, jD, jE, jF]) <;> rfl) : wpAnyH P md ops Q S (fuel + 1) listed a w :=
  wpAnyH_take hi hs hf hr hQ (.inr ⟨hw, rfl⟩) hS (ha ▸ h)
end
theorem wanted_of {ops : Array Oper} {o : Oper} {a : Act} (hgd : o.guard = none) : Region.wanted o (yielded ops a.tmps) = true := by simp [Region.wanted, hgd]
theorem step_append_by {w0 W : World} {v : Value} {l : List UInt8} (HR : BRow w0 v l W) (qs : List UInt8) (ad : Addr) (c : Nat) (hq : BytesAt W (some ad) qs.length qs) (hb : l.length + qs.length ≤ 140737488355328)
    {ops : Array Oper} {o : Oper} {a : Act} {KK : Act → World → Prop} {Q : Exit → Act → World → Prop} {E : Prop} (hgd : o.guard = none) (s x : Operand)
    (ho : o.op = .call { callee := .builtin .append, args := #[s, x], argTypes := #[22, 22] })
    (hs : a.eval s = v) (hx : a.eval x = .slice (some ad) qs.length c)
    (h : ∀ v' w', BRow w0 v' (l ++ qs) w' → KK (a.put o.dst v') w') :
    if Region.wanted o (yielded ops a.tmps) = true then Oper.wp Tryd.prog o a W KK Q else E := by
  rw [if_pos (wanted_of hgd)]
  obtain ⟨i0, z, hi, hz0, hz1, hz2⟩ : ∃ i z, Tryd.prog.info? 5 = some i ∧ i.zero = some z ∧ i.size = 1 ∧ (i.bytes = 1 ∧ z.cells.size = 1) := by
    obtain ⟨i, h1, h2, h3, h4⟩ := info_parts infoB
    exact ⟨i, _, h1, h2, h3, h4, rfl⟩
  obtain ⟨v', w', hr, h2, h3, h4, h5⟩ := run_append_own_at (P := Tryd.prog) W w0.heap.size 22 o.type 5 i0 z 1 1 Tryd.underlying22 hi hz0 hz1 hz2.1 hz2.2 (by decide) v l.length (byV l) HR.2 ad qs.length c (byV qs) (by rw [byV_len, Nat.mul_one]) (fun j u hu => by
    have hj : j < qs.length := by
      have := (List.getElem?_eq_some_iff.1 hu).1
      rwa [byV_len] at this
    obtain ⟨g', o', e, hc⟩ := hq (by omega)
    cases e
    rw [Addr.add_lit, hc j hj, ← hu]
    simp [byV, List.getD_eq_getElem?_getD, List.getElem?_eq_getElem hj]) (fun u hu => by
    obtain ⟨y, _, rfl⟩ := List.mem_map.1 hu
    rfl) (by unfold maxLen; omega) (by omega) HR.1.size
  unfold Oper.wp execOp
  simp only [ho, resolve, invoke, builtin, Sem.run_bind, Sem.run_pure, Result.andThen_ok, List.map_toArray, List.map_cons, List.map_nil, hs, hx, hr]
  refine h _ _ ⟨HR.1.grown h3 HR.1.size (fun k hk => (HR.2.lt k hk).1), ?_⟩
  rw [List.length_append]
  have : byV (l ++ qs) = byV l ++ byV qs := by simp [byV]
  rw [this]
  exact h2
theorem below_drewF {B : Nat} {w0 w : World} (h : Below B w0 w) : Below B w0 w.drew := h.trans ⟨rfl, rfl, rfl, Nat.le_refl _, fun _ _ => rfl⟩
theorem num_one (x : UInt8) : numL [x] = x.toNat := by unfold numL; rw [numFrom_cons]; show 0 * 256 + x.toNat = _; omega
theorem num_two (x y : UInt8) : numL [x, y] = x.toNat * 256 + y.toNat := by unfold numL; rw [numFrom_cons, numFrom_cons]; show (0 * 256 + x.toNat) * 256 + y.toNat = _; omega
theorem byte_of {W : World} {A : Option Addr} {s : List UInt8} (hB : BytesAt W A s.length s) : 0 < s.length → ∃ g o, A = some ⟨g, o, none⟩ ∧ ∀ i, (h : i < s.length) → W.cell? ⟨g, o + i, none⟩ = some (.int .u8 (s[i].toNat : Nat)) := fun h0 => by
  obtain ⟨g, o, e, hc⟩ := hB h0
  refine ⟨g, o, e, fun i hi => ?_⟩
  rw [hc i hi]
  simp [List.getD_eq_getElem?_getD, List.getElem?_eq_getElem hi]
/-- What the bytes of a sector's head tell. -/
theorem head_one {s : List UInt8} (h : s.length = 512) : (s.drop 4).take 1 = [s[4]] := by
  rw [List.drop_eq_getElem_cons (by omega)]; rfl
theorem head_two {s : List UInt8} (h : s.length = 512) : (s.drop 5).take 2 = [s[5], s[6]] := by
  rw [List.drop_eq_getElem_cons (by omega), List.drop_eq_getElem_cons (by omega)]; rfl
theorem rnum_at {W : World} {A : Option Addr} {c : Nat} {s : List UInt8} (pi ki : Int) (p k : Nat) (ep : pi = (p : Int)) (ek : ki = (k : Int)) (hB : BytesAt W A s.length s) (h1 : 1 ≤ k) (h2 : k ≤ 7) (hs : p + k ≤ s.length) (hm : s.length ≤ 140737488355328) :
    Calls Tryd.prog 15 #[.slice A s.length c, .int .i64 pi, .int .i64 ki] W fun e w' => e = .returned (.tuple #[.int .i64 (numL ((s.drop p).take k) : Nat), .int .i64 0]) ∧ w' = W := by
  subst ep ek; exact rnum_good p k hB h1 h2 hs hm
set_option maxHeartbeats 1000000 in
theorem ropen_short {W : World} {A : Option Addr} {c n : Nat} (h : n ≠ 512) :
    Calls Tryd.prog 20 #[.slice A n c] W fun e w' => e = .returned (.tuple #[.int .i64 0, .slice none 0 0, .int .i64 14]) ∧ w' = W := by
  have h1 : ((n : Int) != 512) = true := by rw [bne_iff_ne]; omega
  clear h
  go_enter Tryd.func20, Tryd.ntmps20
  go_wp2_with fail
  refine bodyPost_ret (v := .tuple #[.int .i64 0, .slice none 0 0, .int .i64 14]) ?_ rfl ⟨rfl, rfl⟩
  simp [results, Tryd.results20, go_sem]
set_option maxHeartbeats 4000000 in
theorem ropen_sum {W : World} {A : Option Addr} {c : Nat} {s : List UInt8} (hB : BytesAt W A s.length s) (hc : s.length ≤ c) (h512 : s.length = 512) (h : numL (s.take 4) ≠ sumB (s.drop 4)) :
    Calls Tryd.prog 20 #[.slice A s.length c] W fun e w' => e = .returned (.tuple #[.int .i64 0, .slice none 0 0, .int .i64 13]) ∧ w' = W := by
  have hne : (((numL (s.take 4) : Nat) : Int) != ((sumB (s.drop 4) : Nat) : Int)) = true := by rw [bne_iff_ne]; omega
  have hn1 := rnum_at (A := A) (c := c) 0 4 0 4 rfl rfl hB (by decide) (by decide) (by omega) (by omega)
  have hr4 := run_from_at 4 A s.length c 4 rfl (by omega)
  have hY4 := adv_bytes (c := c) hB (show 4 ≤ s.length by omega) hc
  have hd4 : (s.drop 4).length = 508 := by rw [List.length_drop]; omega
  have hS := ref_Sum (A := advA A c 4) (c := c - 4) (s := s.drop 4) (by rw [hd4]; rw [show s.length - 4 = 508 by omega] at hY4; exact hY4) (by omega)
  rw [hd4] at hS
  rw [show s.length - 4 = 508 by omega] at hr4
  have hcv : IntKind.i64.wrap ((sumB (s.drop 4) : Nat) : Int) = ((sumB (s.drop 4) : Nat) : Int) := IntWalk.i64_in _ (by have := sumB_lt (s.drop 4); omega)
  rw [List.drop_zero] at hn1
  rw [h512] at hn1 hr4 ⊢
  have H1 := Lib.hid hn1
  have HS := Lib.hid hS
  have HB := Lib.hid hB
  clear hn1 hS hB hY4 h hd4
  generalize numL (s.take 4) = S1 at *
  generalize sumB (s.drop 4) = S2 at *
  go_enter Tryd.func20, Tryd.ntmps20
  go_wp2_with (first
    | (go_at_call 15; (with_reducible refine H1.out.mono ?_); rintro e' wz ⟨rfl, hwz⟩; have hwz := hwz.symm; subst hwz)
    | (go_at_call 12; (with_reducible refine HS.out.mono ?_); rintro e' wz ⟨rfl, hwz⟩; have hwz := hwz.symm; subst hwz))
  refine bodyPost_ret (v := .tuple #[.int .i64 0, .slice none 0 0, .int .i64 13]) ?_ rfl ⟨rfl, rfl⟩
  simp [results, Tryd.results20, go_sem]
set_option maxHeartbeats 4000000 in
set_option maxRecDepth 100000 in
theorem ropen_rest {W : World} {A : Option Addr} {c : Nat} {s : List UInt8} (hB : BytesAt W A s.length s) (hc : s.length ≤ c) (h512 : s.length = 512) (h : numL (s.take 4) = sumB (s.drop 4)) :
    Calls Tryd.prog 20 #[.slice A s.length c] W fun e w' => ∃ v, e = .returned (.tuple #[.int .i64 (opK s : Nat), v, .int .i64 (opE s)]) ∧ BRow W v (opD s) w' := by
  have h14 : opE s = if numL ((s.drop 4).take 1) = 0 ∨ 505 < numL ((s.drop 5).take 2) ∨ ¬ (s.drop (7 + numL ((s.drop 5).take 2))).all (· == 0) then ETEXT else 0 := by unfold opE; rw [if_neg (by omega), if_neg (by omega)]
  rw [head_one h512, head_two h512, num_one, num_two] at h14
  have hK : opK s = if opE s = 0 then (s[4]'(by omega)).toNat else 0 := by unfold opK; rw [head_one h512, num_one]
  have hD : opD s = if opE s = 0 then (s.drop 7).take ((s[5]'(by omega)).toNat * 256 + (s[6]'(by omega)).toNat) else [] := by unfold opD; rw [head_two h512, num_two]
  have hn1 := rnum_at (A := A) (c := c) 0 4 0 4 rfl rfl hB (by decide) (by decide) (by omega) (by omega)
  have hr4 := run_from_at 4 A s.length c 4 rfl (by omega)
  have hY4 := adv_bytes (c := c) hB (show 4 ≤ s.length by omega) hc
  have hd4 : (s.drop 4).length = 508 := by rw [List.length_drop]; omega
  have hS := ref_Sum (A := advA A c 4) (c := c - 4) (s := s.drop 4) (by rw [hd4]; rw [show s.length - 4 = 508 by omega] at hY4; exact hY4) (by omega)
  rw [hd4] at hS
  rw [show s.length - 4 = 508 by omega] at hr4
  have hcv : IntKind.i64.wrap ((sumB (s.drop 4) : Nat) : Int) = ((sumB (s.drop 4) : Nat) : Int) := IntWalk.i64_in _ (by have := sumB_lt (s.drop 4); omega)
  rw [List.drop_zero] at hn1
  rw [h512] at hn1 hr4 ⊢
  have H1 := Lib.hid hn1
  have HS := Lib.hid hS
  have HB := Lib.hid hB
  rw [h] at H1
  obtain ⟨g, o, rfl, hcell⟩ := byte_of hB (by omega)
  have hc4 := hcell 4 (by omega)
  have hc5 := hcell 5 (by omega)
  have hc6 := hcell 6 (by omega)
  have HCELL := Lib.hid hcell
  have H14 := Lib.hid h14
  have HK := Lib.hid hK
  have HD := Lib.hid hD
  clear hn1 hS hB hY4 h hd4 h14 hK hD hcell
  generalize sumB (s.drop 4) = S2 at *
  have hne : ((S2 : Int) != (S2 : Int)) = false := by simp
  generalize hx4 : s[4]'(by omega) = x4 at *
  generalize hx5 : s[5]'(by omega) = x5 at *
  generalize hx6 : s[6]'(by omega) = x6 at *
  clear hx4 hx5 hx6
  have l5 := x5.toNat_lt
  have l6 := x6.toNat_lt
  generalize advA (some ⟨g, o, none⟩) c 4 = A4 at *
  obtain ⟨L, hL⟩ : ∃ L, L = x5.toNat * 256 + x6.toNat := ⟨_, rfl⟩
  have hw5 : IntKind.i64.wrap ((x5.toNat : Nat) : Int) = ((x5.toNat : Nat) : Int) := IntWalk.i64_in _ (by omega)
  have hw6 : IntKind.i64.wrap ((x6.toNat : Nat) : Int) = ((x6.toNat : Nat) : Int) := IntWalk.i64_in _ (by omega)
  have hm5 : IntKind.i64.wrap (((x5.toNat : Nat) : Int) * 256) = ((x5.toNat : Nat) : Int) * 256 := IntWalk.i64_in _ (by omega)
  have ha6 : IntKind.i64.wrap (((x5.toNat : Nat) : Int) * 256 + ((x6.toNat : Nat) : Int)) = (L : Int) := by rw [IntWalk.i64_in _ (by omega)]; omega
  have hw4 : IntKind.i64.wrap ((x4.toNat : Nat) : Int) = ((x4.toNat : Nat) : Int) := IntWalk.i64_in _ (by have := x4.toNat_lt; omega)
  have hLb : L ≤ 65535 := by omega
  rw [← hL] at H14 HD
  clear hL
  have HW := Lib.hid (below_drewF (Below.refl W.heap.size W))
  go_enter Tryd.func20, Tryd.ntmps20
  go_wp2_with (first
    | (go_at_call 15; (with_reducible refine H1.out.mono ?_); rintro e' wz ⟨rfl, hwz⟩; have hwz := hwz.symm; subst hwz)
    | (go_at_call 12; (with_reducible refine HS.out.mono ?_); rintro e' wz ⟨rfl, hwz⟩; have hwz := hwz.symm; subst hwz))
  go_region
  have hBD := HB.out.on HW.out
  have hc4d : W.drew.cell? ⟨g, o + 4, none⟩ = some (.int .u8 (x4.toNat : Nat)) := hc4
  generalize hwd : W.drew = wd at *
  have HBD := Lib.hid hBD
  have b11 : ∀ (he : opE s = 11), Hid (opE s = 11) ∧ Hid (opK s = 0) ∧ Hid (opD s = []) := fun he => ⟨he, by show _ = _; rw [HK.out, if_neg (by rw [he]; decide)], by show _ = _; rw [HD.out, if_neg (by rw [he]; decide)]⟩
  have B11 := Lib.hid b11
  clear hc4 hc5 hc6 HCELL H1 HS hr4 hBD b11 hwd
  by_cases h0 : x4.toNat = 0
  · have h0' : ((x4.toNat : Nat) : Int) = 0 := by omega
    rw [h0'] at hc4d
    obtain ⟨HE11, HK11, HD11⟩ := B11.out (by rw [H14.out, if_pos (.inl h0)]; rfl)
    go_wp2_with fail
    refine bodyPost_ret (v := .tuple #[.int .i64 0, .slice none 0 0, .int .i64 11]) ?_ rfl ⟨_, by rw [HE11.out, HK11.out]; rfl, by rw [HD11.out]; exact ⟨HW.out, World.ownsRow_nil _ _ _ _⟩⟩
    simp [results, Tryd.results20, go_sem]
  · have h0' : (((x4.toNat : Nat) : Int) == 0) = false := by rw [beq_eq_false_iff_ne]; omega
    by_cases h5 : 505 < L
    · have h5' : (505 : Int) < (L : Int) := by omega
      obtain ⟨HE11, HK11, HD11⟩ := B11.out (by rw [H14.out, if_pos (.inr (.inl h5))]; rfl)
      go_wp2_with fail
      refine bodyPost_ret (v := .tuple #[.int .i64 0, .slice none 0 0, .int .i64 11]) ?_ rfl ⟨_, by rw [HE11.out, HK11.out]; rfl, by rw [HD11.out]; exact ⟨HW.out, World.ownsRow_nil _ _ _ _⟩⟩
      simp [results, Tryd.results20, go_sem]
    · have h5' : ¬ (505 : Int) < (L : Int) := by omega
      have hw7 : IntKind.i64.wrap (7 + (L : Int)) = ((7 + L : Nat) : Int) := by rw [IntWalk.i64_in _ (by omega)]; omega
      go_wp2_with fail
      go_loopw [8] (fun i wr => ∃ j : Nat, i = .int .i64 j ∧ 7 + L ≤ j ∧ j ≤ 512 ∧ wr = wd ∧ Hid (∀ q, 7 + L ≤ q → q < j → s[q]? = some 0)) (fun i _ => 512 - (RowKit.intOf i).toNat)
      case atStart => exact ⟨7 + L, by first | rfl | (simp; omega) | simp, Nat.le_refl _, by omega, rfl, fun q h1 h2 => by omega⟩
      case round =>
        obtain ⟨j, rfl, hj1, hj2, hw, HZ⟩ := hrel
        have hw := hw.symm
        subst hw
        by_cases hlt : j < 512
        · have hl1 : (j : Int) < 512 := by omega
          have hl0 : (0 : Int) ≤ (j : Int) := by omega
          obtain ⟨g', o', e, hcj⟩ := byte_at HBD.out (show j < s.length by omega)
          cases e
          have HG := Lib.hid (List.getElem?_eq_getElem (show j < s.length by omega))
          generalize s[j]'(by omega) = x at *
          by_cases hx : x = 0
          · subst hx
            rw [show (((0 : UInt8).toNat : Nat) : Int) = 0 from rfl] at hcj
            go_wp2_with fail
            refine ⟨⟨j + 1, by go_num, by omega, by omega, by first | rfl | trivial, fun q h1 h2 => ?_⟩, by simp [RowKit.intOf]; omega⟩
            rcases Nat.lt_or_ge q j with h | h
            · exact HZ.out q h1 h
            · obtain rfl : q = j := by omega
              exact HG.out
          · have hx1 : (((x.toNat : Nat) : Int) != 0) = true := by
              rw [bne_iff_ne]
              intro e
              exact hx (UInt8.toNat_inj.1 (by simpa using e))
            have hno : ¬ (s.drop (7 + L)).all (· == 0) = true := fun hall => by
              rw [List.all_eq_true] at hall
              have := hall x (List.mem_of_getElem? (i := j - (7 + L)) (by rw [List.getElem?_drop, show 7 + L + (j - (7 + L)) = j by omega]; exact HG.out))
              exact hx (by simpa using this)
            obtain ⟨HE11, HK11, HD11⟩ := B11.out (by rw [H14.out, if_pos (.inr (.inr hno))]; rfl)
            clear hno
            clear hx
            go_wp2_with fail
            refine bodyPost_ret (v := .tuple #[.int .i64 0, .slice none 0 0, .int .i64 11]) ?_ rfl ⟨_, by rw [HE11.out, HK11.out]; rfl, by rw [HD11.out]; exact ⟨HW.out, World.ownsRow_nil _ _ _ _⟩⟩
            simp [results, Tryd.results20, go_sem]
        · have hl1 : ¬ (j : Int) < 512 := by omega
          have hall : (s.drop (7 + L)).all (· == 0) = true := all_take fun q hq => by
            rw [List.getElem?_drop]
            exact HZ.out (7 + L + q) (by omega) (by rw [List.length_drop] at hq; omega)
          have HE0 := Lib.hid (show opE s = 0 by rw [H14.out, if_neg (fun h => h.elim h0 fun h => h.elim h5 fun h => h hall)])
          have HK0 := Lib.hid (show opK s = x4.toNat by rw [HK.out, if_pos HE0.out])
          have HD0 := Lib.hid (show opD s = (s.drop 7).take L by rw [HD.out, if_pos HE0.out])
          have hd : 512 = s.length := h512.symm
          have hr9 := run_range_at 7 (7 + (L : Int)) (some ⟨g, o, none⟩) s.length c 7 (7 + L) rfl (by omega) (by omega) (by omega) hc
          rw [h512, show 7 + L - 7 = L by omega] at hr9
          have hA7 : advA (some ⟨g, o, none⟩) c 7 = some ⟨g, o + 7, none⟩ := by unfold advA; rw [if_neg (by omega)]; simp [Addr.add_lit]
          have hlt9 : ((s.drop 7).take L).length = L := by simp; omega
          have hY9 : ∀ w, BytesAt w (some ⟨g, o, none⟩) s.length s → BytesAt w (some ⟨g, o + 7, none⟩) ((s.drop 7).take L).length ((s.drop 7).take L) := fun w hw h0 => by
            have hA := adv_bytes (c := c) hw (show 7 ≤ s.length by omega) hc
            rw [hA7] at hA
            obtain ⟨g, o, e, hh⟩ := hA (by omega)
            refine ⟨g, o, e, fun i hi => ?_⟩
            rw [hh i (by omega), List.getD_eq_getElem?_getD, List.getD_eq_getElem?_getD, List.getElem?_take_of_lt (by omega)]
          rw [hA7] at hr9
          have hw7' : IntKind.i64.wrap (7 + (L : Int)) = 7 + (L : Int) := IntWalk.i64_in _ (by omega)
          have HY9 := Lib.hid hY9
          have HL9 := Lib.hid hlt9
          clear hall hd hA7 hY9 hlt9 hw7
          generalize (s.drop 7).take L = d at *
          go_wp2_with fail
          have HC4 := Lib.hid hc4d
          refine wp_region_held_drew (S := (fun W' => W'.cell? ⟨g, o + 4, none⟩ = some (.int .u8 (x4.toNat : Nat)))) (by kernel_rfl) ?_ (fun hHeld => ?_)
          · exact HC4.out
          have HW2 := Lib.hid (below_drewF (Below.refl wd.heap.size wd))
          have HC5 : Hid (wd.drew.cell? ⟨g, o + 4, none⟩ = some (.int .u8 (x4.toNat : Nat))) := HC4.out
          generalize (World.drew _) = w2 at HW2 HC5 hHeld ⊢
          clear hc4d
          refine takeSome (i := 0) (v := ?_) (by decide +kernel) rfl (by rfl) (by decide +kernel) (by decide +kernel) (fun _ _ _ h => h) (by assumption) ?_ ?_
          rotate_left
          focus (intro w0 hSw; (try dsimp only at hSw); go_simp; (try (with_reducible rfl)); done)
          (try simp only [Act.put, List.getElem_toArray, List.getElem_cons_zero, List.setIfInBounds_toArray, List.set_cons_zero, List.set_cons_succ])
          refine takeSome (i := 1) (v := ?_) (by decide +kernel) rfl (by rfl) (by decide +kernel) (by decide +kernel) (fun _ _ _ h => h) (by assumption) ?_ ?_
          rotate_left
          focus (intro w0 hSw; (try dsimp only at hSw); go_simp; (try (with_reducible rfl)); done)
          (try simp only [Act.put, List.getElem_toArray, List.getElem_cons_zero, List.getElem_cons_succ, List.setIfInBounds_toArray, List.set_cons_zero, List.set_cons_succ])
          refine takeSome (i := 2) (v := ?_) (by decide +kernel) rfl (by rfl) (by decide +kernel) (by decide +kernel) (fun _ _ _ h => h) (by assumption) ?_ ?_
          rotate_left
          focus (intro w0 hSw; (try dsimp only at hSw); go_simp; (try (with_reducible rfl)); done)
          (try simp only [Act.put, List.getElem_toArray, List.getElem_cons_zero, List.getElem_cons_succ, List.setIfInBounds_toArray, List.set_cons_zero, List.set_cons_succ])
          refine takeSome (i := 3) (v := ?_) (by decide +kernel) rfl (by rfl) (by decide +kernel) (by decide +kernel) (fun _ _ _ h => h) (by assumption) ?_ ?_
          rotate_left
          focus (intro w0 hSw; (try dsimp only at hSw); go_simp; (try (with_reducible rfl)); done)
          (try simp only [Act.put, List.getElem_toArray, List.getElem_cons_zero, List.getElem_cons_succ, List.setIfInBounds_toArray, List.set_cons_zero, List.set_cons_succ])
          refine takeSome (i := 5) (v := ?_) (by decide +kernel) rfl (by rfl) (by decide +kernel) (by decide +kernel) (fun _ _ _ h => h) (by assumption) ?_ ?_
          rotate_left
          focus (intro w0 hSw; (try dsimp only at hSw); go_simp; (try (with_reducible rfl)); done)
          (try simp only [Act.put, List.getElem_toArray, List.getElem_cons_zero, List.getElem_cons_succ, List.setIfInBounds_toArray, List.set_cons_zero, List.set_cons_succ])
          refine takeSome (i := 6) (v := ?_) (by decide +kernel) rfl (by rfl) (by decide +kernel) (by decide +kernel) (fun _ _ _ h => h) (by assumption) ?_ ?_
          rotate_left
          focus (intro w0 hSw; (try dsimp only at hSw); go_simp; (try (with_reducible rfl)); done)
          (try simp only [Act.put, List.getElem_toArray, List.getElem_cons_zero, List.getElem_cons_succ, List.setIfInBounds_toArray, List.set_cons_zero, List.set_cons_succ])
          refine takeSome (i := 7) (v := ?_) (by decide +kernel) rfl (by rfl) (by decide +kernel) (by decide +kernel) (fun _ _ _ h => h) (by assumption) ?_ ?_
          rotate_left
          focus (intro w0 hSw; (try dsimp only at hSw); go_simp; (try (with_reducible rfl)); done)
          (try simp only [Act.put, List.getElem_toArray, List.getElem_cons_zero, List.getElem_cons_succ, List.setIfInBounds_toArray, List.set_cons_zero, List.set_cons_succ])
          refine takeSome (i := 8) (v := ?_) (by decide +kernel) rfl (by rfl) (by decide +kernel) (by decide +kernel) (fun _ _ _ h => h) (by assumption) ?_ ?_
          rotate_left
          focus (intro w0 hSw; (try dsimp only at hSw); go_simp; (try (with_reducible rfl)); done)
          (try simp only [Act.put, List.getElem_toArray, List.getElem_cons_zero, List.getElem_cons_succ, List.setIfInBounds_toArray, List.set_cons_zero, List.set_cons_succ])
          have HMD := Lib.hid (BRow.made w2 w2 (Below.refl _ _))
          have HYD := Lib.hid (HY9.out _ ((HBD.out.on HW2.out).on HMD.out.1))
          have HSD := Lib.hid (show ([] : List UInt8).length + d.length ≤ 140737488355328 by rw [HL9.out, List.length_nil]; omega)
          refine wpAnyH_ready (rs := [4]) (by decide +kernel) (by simp) ?_
          refine AllReadyH.cons rfl (fun K hK => ?_) AllReadyH.nil
          (try simp only [List.getElem_toArray, List.getElem_cons_zero, List.getElem_cons_succ])
          go_simp
          refine hK.out _ _ ?_ (fun hHeld => ?_)
          focus ((try dsimp only); exact (grew_of HMD.out.1 none).cell HC5.out (by simp); done)
          clear hK K
          (try simp only [Act.put, List.getElem_toArray, List.getElem_cons_zero, List.getElem_cons_succ, List.setIfInBounds_toArray, List.set_cons_zero, List.set_cons_succ])
          have HSD2 : Hid (L = d.length) := HL9.out.symm
          refine wpAnyH_ready (rs := [9]) (by decide +kernel) (by simp) ?_
          refine AllReadyH.cons rfl (fun K hK => ?_) AllReadyH.nil
          refine step_append_by HMD.out d ⟨g, o + 7, none⟩ (c - 7) HYD.out HSD.out rfl _ _ rfl rfl (by rw [HL9.out]; rfl) ?_; rintro v8 w8 HR8; rw [List.nil_append] at HR8; have HR9 := Lib.hid HR8; clear HR8
          refine hK.out _ _ ?_ (fun hHeld => ?_)
          focus ((try dsimp only); exact (grew_of HR9.out.1 none).cell HC5.out (by simp); done)
          clear hK K
          (try simp only [Act.put, List.getElem_toArray, List.getElem_cons_zero, List.getElem_cons_succ, List.setIfInBounds_toArray, List.set_cons_zero, List.set_cons_succ])
          refine takeSome (i := 10) (v := ?_) (by decide +kernel) rfl (by rfl) (by decide +kernel) (by decide +kernel) (fun _ _ _ h => h) (by assumption) ?_ ?_
          rotate_left
          focus (intro w0 hSw; (try dsimp only at hSw); go_simp; (try (with_reducible rfl)); done)
          (try simp only [Act.put, List.getElem_toArray, List.getElem_cons_zero, List.getElem_cons_succ, List.setIfInBounds_toArray, List.set_cons_zero, List.set_cons_succ])
          refine takeSome (i := 11) (v := ?_) (by decide +kernel) rfl (by rfl) (by decide +kernel) (by decide +kernel) (fun _ _ _ h => h) (by assumption) ?_ ?_
          rotate_left
          focus (intro w0 hSw; (try dsimp only at hSw); go_simp; (try (with_reducible rfl)); done)
          (try simp only [Act.put, List.getElem_toArray, List.getElem_cons_zero, List.getElem_cons_succ, List.setIfInBounds_toArray, List.set_cons_zero, List.set_cons_succ])
          refine takeSome (i := 12) (v := ?_) (by decide +kernel) rfl (by rfl) (by decide +kernel) (by decide +kernel) (fun _ _ _ h => h) (by assumption) ?_ ?_
          rotate_left
          focus (intro w0 hSw; (try dsimp only at hSw); go_simp; (try (with_reducible rfl)); done)
          (try simp only [Act.put, List.getElem_toArray, List.getElem_cons_zero, List.getElem_cons_succ, List.setIfInBounds_toArray, List.set_cons_zero, List.set_cons_succ])
          refine wpAnyH_done (by decide +kernel) ?_ _
          go_wp2_with fail
          refine bodyPost_ret (v := .tuple #[.int .i64 (x4.toNat : Nat), v8, .int .i64 0]) ?_ rfl ⟨v8, by rw [HE0.out, HK0.out], by rw [HD0.out]; exact HR9.out.up (HW.out.trans (HW2.out.mono HW.out.size))⟩
          simp [results, Tryd.results20, go_sem]
theorem ref_Open {W : World} {A : Option Addr} {c : Nat} {s : List UInt8} (hB : BytesAt W A s.length s) (hc : s.length ≤ c) :
    Calls Tryd.prog 20 #[.slice A s.length c] W fun e w' => ∃ v, e = .returned (.tuple #[.int .i64 (opK s : Nat), v, .int .i64 (opE s)]) ∧ BRow W v (opD s) w' := by
  by_cases h1 : s.length = 512
  · by_cases h2 : numL (s.take 4) = sumB (s.drop 4)
    · exact ropen_rest hB hc h1 h2
    · have he : opE s = 13 := by unfold opE; rw [if_neg (by omega), if_pos h2]; rfl
      have hk : opK s = 0 := by unfold opK; rw [if_neg (by rw [he]; decide)]
      have hd : opD s = [] := by unfold opD; rw [if_neg (by rw [he]; decide)]
      rw [he, hk, hd]
      exact (ropen_sum hB hc h1 h2).mono fun e w' ⟨h, hw⟩ => ⟨_, h, hw ▸ BRow.none W⟩
  · have he : opE s = 14 := by unfold opE; rw [if_pos h1]; rfl
    have hk : opK s = 0 := by unfold opK; rw [if_neg (by rw [he]; decide)]
    have hd : opD s = [] := by unfold opD; rw [if_neg (by rw [he]; decide)]
    rw [he, hk, hd]
    exact (ropen_short h1).mono fun e w' ⟨h, hw⟩ => ⟨_, h, hw ▸ BRow.none W⟩
end Go.Proofs.YtdnfijhclikkfaaDoor
