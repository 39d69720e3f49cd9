/- Layer sector, the document's disk: barriers and crashes. -/
import Derived.Test.YtngfffbnofejmaaSRf3
import Derived.Test.YtngfffbnofejmaaSUns
namespace Go.Proofs.Ytngfffbnofejmaa
open Go.RowKit Go.Lib Go.ChangeMaps Go.MapKept
set_option maxHeartbeats 1000000 in
theorem RBarrier_any {W : World} {T : Nat → Prop} {st : DS} {g : Nat} (h : Rk W T st g) (hn : st.log.length ≤ 100000) :
    Calls Try.prog 15 #[.pointer (some ⟨g, 0, none⟩)] W fun e w' => e = .returned (.int .i64 (barrE st)) ∧ RkTo W w' T (barrS st) g := by
  have HK := Lib.hid h
  have hc4 : W.cell? ⟨g, 4, none⟩ = some (.bool st.out) := by
    obtain ⟨v, U, h⟩ := h
    exact h.c4
  by_cases ho : st.out = true
  · have HP := Lib.hid (show barrE st = 15 ∧ barrS st = st from ⟨if_pos ho, if_pos ho⟩)
    rw [ho] at hc4
    clear h ho
    go_enter Try.func15, Try.ntmps15
    go_wp2_with fail
    go_ret
    exact ⟨by rw [HP.out.1]; rfl, by rw [HP.out.2]; exact RkTo.refl HK.out⟩
  · rw [Bool.not_eq_true] at ho
    rw [ho] at hc4
    have HS := Lib.hid (burns_any h ho)
    have HP0 := Lib.hid (show barrE st = dn (burn st).out ∧ barrS st = if (burn st).out = true then burn st else { burn st with n := st.log.length } from ⟨by
      unfold barrE dn
      rw [if_neg (by rw [ho]; decide)], by
      unfold barrS
      rw [if_neg (by rw [ho]; decide)]⟩)
    have HN := Lib.hid hn
    clear h ho hn
    cases hbo : (burn st).out
    · rw [hbo] at HS
      rw [hbo, dn_f, if_neg (by decide)] at HP0
      go_enter Try.func15, Try.ntmps15
      go_upto_region 3 with (go_at_call 35; refine HS.out.mono ?_; rintro e' w1 ⟨rfl, hd1, hf1⟩; have HD1 := Lib.hid hd1; have HF1 := Lib.hid hf1; clear hd1 hf1)
      obtain ⟨v, U, hd⟩ := HD1.out
      obtain ⟨A, c, rfl⟩ := hd.row.shape
      have HH := Lib.hid hd
      have c1 := hd.c1
      have c2 := hd.c2
      have f2 := blk_frozen hd.blk 2
      have b2 := blk_set hd.blk 2 (.int .i64 (U.length : Nat))
      simp only [List.setIfInBounds_toArray, List.set_cons_succ, List.set_cons_zero] at b2
      have B2 := Lib.hid b2
      have HL := Lib.hid (show U.length = st.log.length by rw [← (burn_log st).1, ← hd.log, List.length_map])
      have HOK := Lib.hid (show ({ burn st with n := st.log.length } : DS).ok by
        obtain ⟨a, b, c, d⟩ := hd.ok
        exact ⟨by show st.log.length ≤ (burn st).log.length; rw [(burn_log st).1]; exact Nat.le_refl _, b, c, d⟩)
      clear hd b2
      go_wp2_with fail
      go_ret
      have hf : Fr (· = g) w1 (w1.setCell ⟨g, 2, none⟩ (.int .i64 (U.length : Nat))) := Fr.set rfl
      refine ⟨by rw [HP0.out.1]; rfl, ?_⟩
      rw [HP0.out.2]
      refine RkTo.trans (HF1.out.mono (fun k _ e => HK.out.nb k e)) (Ext.refl _ _) ⟨hf.mono (fun k _ e => HD1.out.nb k e), T, Ext.refl _ _, _, U, HH.out.set hf HOK.out ?_ rfl⟩
      have h3 := B2.out
      rw [HL.out] at h3 ⊢
      exact h3
    · rw [hbo] at HS
      rw [hbo, dn_t, if_pos rfl] at HP0
      clear hbo
      go_enter Try.func15, Try.ntmps15
      go_wp2_with (go_at_call 35; refine HS.out.mono ?_; rintro e' w1 ⟨rfl, hd1, hf1⟩; have HD1 := Lib.hid hd1; have HF1 := Lib.hid hf1; clear hd1 hf1)
      go_ret
      exact ⟨by rw [HP0.out.1]; rfl, by rw [HP0.out.2]; exact ⟨HF1.out.mono (fun k _ e => HK.out.nb k e), T, Ext.refl _ _, HD1.out⟩⟩
/-- A write more in a list of the holder's own, in a plain walk. -/
theorem wp_appW {W : World} {T : Nat → Prop} {v : Value} {l : List WV} (HL : LogAt W T v l) (hT : Ter W T) (x : WV) (hx : SvAt W T x.2) {g : Nat} {cs : Array Value} {t' : TypeId} (hg : W.heap[g]? = some (.cells cs t' (0, 0))) (hcs : cs.toList = encW x) (hn : l.length + 1 ≤ 1000000)
    {ops : Array Oper} {rest : List Oper} {o : Oper} {a : Act} {Q : Exit → Act → World → Prop} (hgd : o.guard = none) (s y : Operand)
    (ho : o.op = .call { callee := .builtin .append, args := #[s, y], argTypes := #[29, 29] })
    (hs : a.eval s = v) (c : Nat) (hy : a.eval y = .slice (some ⟨g, 0, none⟩) 1 c)
    (h : ∀ v' w', ((∀ T' : Nat → Prop, (∀ k, T k → T' k) → (W.heap.size < w'.heap.size → T' W.heap.size) → LogAt w' T' v' (l ++ [x])) ∧ ∀ j, v'.ownBlock = some j → v.ownBlock = some j ∨ j = W.heap.size) → W.grownBy w' v.ownBlock → wpList Try.prog ops Q rest (a.put o.dst v') w') :
    wpList Try.prog ops Q (o :: rest) a W := by
  refine wpList_plain hgd fun K hK => ?_
  have := step_appW (ops := #[]) (E := True) (KK := K) (Q := Q) HL hT x hx hg hcs hn hgd s y ho hs c hy (fun v' w' h1 h2 h3 => hK _ _ (h v' w' ⟨h1, h3⟩ h2))
  rw [if_pos (by simp [Region.wanted, hgd])] at this
  exact this
theorem keepF_append (ls : Nat → Bool) : ∀ (a b : List Wr) (k : Nat), keepF ls k (a ++ b) = keepF ls k a ++ keepF ls (k + a.length) b
  | [], b, k => by simp [keepF]
  | x :: a, b, k => by
    rw [List.cons_append, keepF, keepF, keepF_append ls a b (k + 1), List.length_cons, show k + 1 + a.length = k + (a.length + 1) by omega]
    split <;> rfl
theorem keepF_same (ls : Nat → Bool) : ∀ (a : List Wr) (k : Nat), (∀ i, k ≤ i → i < k + a.length → ls i = true) → keepF ls k a = a
  | [], _, _ => rfl
  | x :: a, k, h => by
    rw [keepF, if_pos (h k (Nat.le_refl _) (by rw [List.length_cons]; omega)), keepF_same ls a (k + 1) (fun i h1 h2 => h i (by omega) (by rw [List.length_cons]; omega))]
theorem keepF_shift (ls ls' : Nat → Bool) (n : Nat) (h : ∀ i, ls (n + i) = ls' i) : ∀ (a : List Wr) (k : Nat), keepF ls (n + k) a = keepF ls' k a
  | [], _ => rfl
  | x :: a, k => by
    rw [keepF, keepF, h k, show n + k + 1 = n + (k + 1) by omega, keepF_shift ls ls' n h a (k + 1)]
/-- Which of all writes last. -/
def lastsF (n m : Nat) (i : Nat) : Bool := decide (i < n) || m.testBit ((i - n) % 64)
theorem lasts_log {st : DS} (h : st.ok) (m : Nat) : keepF (lastsF st.n m) 0 st.log = (crashS st m).log := by
  have e : st.log = st.sure ++ st.un := (List.take_append_drop ..).symm
  have hs : st.sure.length = st.n := by unfold DS.sure; rw [List.length_take]; exact Nat.min_eq_left h.1
  have h1 : keepF (lastsF st.n m) 0 st.log = keepF (lastsF st.n m) 0 (st.sure ++ st.un) := by rw [← e]
  rw [h1, keepF_append, keepF_same _ st.sure 0 (fun i _ h2 => by unfold lastsF; rw [decide_eq_true (by omega)]; rfl), Nat.zero_add, hs]
  show _ = st.sure ++ keepM m 0 st.un
  rw [keepM_eq]
  congr 1
  have := keepF_shift (lastsF st.n m) (fun k => m.testBit (k % 64)) st.n (fun i => by unfold lastsF; rw [decide_eq_false (by omega), Nat.add_sub_cancel_left]; rfl) st.un 0
  rw [Nat.add_zero] at this
  exact this
set_option maxHeartbeats 4000000 in
theorem RCrash_any {W : World} {T : Nat → Prop} {st : DS} {g : Nat} (h : Rk W T st g) (hn : st.log.length ≤ 100000) (mk : Nat) (hm : mk < 18446744073709551616) :
    Calls Try.prog 30 #[.pointer (some ⟨g, 0, none⟩), .int .u64 (mk : Nat)] W fun e w' => e = .returned (.tuple #[]) ∧ RkTo W w' T (crashS st mk) g := by
  obtain ⟨v, U, h⟩ := h
  have hlen : U.length = st.log.length := by rw [← h.log, List.length_map]
  have hle : U.length ≤ 100000 := by omega
  obtain ⟨A, c, rfl⟩ := h.row.shape
  have HH := Lib.hid h
  have HM := Lib.hid hm
  have HLE := Lib.hid hle
  have HNL := Lib.hid (show st.n ≤ U.length by rw [hlen]; exact h.ok.1)
  clear h hn hlen hm
  go_enter Try.func30, Try.ntmps30
  go_wp2_with fail
  go_loopg [4, 5] U.length (fun m s i wr => ∃ (k : Nat) (V : List WV), i = .int .i64 k ∧ k ≤ U.length ∧ m = U.length - k ∧ Hid (Below W.heap.size W wr ∧ (LogAt wr (fun j => T j ∨ Fresh W wr j) s V ∧ ∀ j, s.ownBlock = some j → W.heap.size ≤ j) ∧ V.length ≤ k ∧ V.map WV.w = keepF (lastsF st.n mk) 0 (st.log.take k)))
  case atStart => exact ⟨0, [], rfl, Nat.zero_le _, rfl, Lib.hid ⟨Below.refl _ _, ⟨{ row := World.ownsRow_nil _ _ _ _, ter := fun k e => (by cases e), sv := fun x hx => (by cases hx) }, fun j e => (by cases e)⟩, Nat.le_refl _, by rw [List.take_zero]; rfl⟩⟩
  case round =>
    obtain ⟨k, V, rfl, hk, rfl, HR⟩ := hrel
    have k1 : wr.cell? ⟨g, 1, none⟩ = some (.slice A U.length c) := (HR.out.1.cell (p := ⟨g, 1, none⟩) (blk_lt HH.out.blk)).trans HH.out.c1
    have k2 : wr.cell? ⟨g, 2, none⟩ = some (.int .i64 (st.n : Nat)) := (HR.out.1.cell (p := ⟨g, 2, none⟩) (blk_lt HH.out.blk)).trans HH.out.c2
    by_cases hlt : k < U.length
    · have hl1 : (k : Int) < (U.length : Int) := by omega
      have hl0 : (0 : Int) ≤ (k : Int) := by omega
      have HKK := Lib.hid hk
      obtain ⟨b, c', ev, r0, r1⟩ := HH.out.row.get hlt
      injection ev with e1 e2 e3
      subst e1
      subst e3
      have hb0 : b < W.heap.size := by
        obtain ⟨cur, hh⟩ := HH.out.row.blk rfl
        exact blk_lt hh
      have r0 := (HR.out.1.cell (p := ⟨b, k * 2, none⟩) hb0).trans r0
      have r1 := (HR.out.1.cell (p := ⟨b, k * 2 + 1, none⟩) hb0).trans r1
      have HW := Lib.hid (show st.log.take (k + 1) = st.log.take k ++ [WV.w U[k]] by
        rw [← HH.out.log, List.take_add_one, List.getElem?_map, List.getElem?_eq_getElem hlt]; rfl)
      have HX := Lib.hid (HH.out.row.sv _ (List.getElem_mem hlt))
      have HLK := Lib.hid (show (st.log.take k).length = k by rw [List.length_take, ← HH.out.log, List.length_map]; omega)
      generalize U[k] = x at *
      obtain ⟨xi, xA, xc, xb⟩ := x
      have hxl : xb.length = 512 := HX.out.2.1
      replace r1 : wr.cell? ⟨b, k * 2 + 1, none⟩ = some (.slice xA 512 xc) := by rw [r1, ← hxl]; rfl
      have HXL := Lib.hid hxl
      clear hxl
      by_cases hs : k < st.n
      · have hs1 : (k : Int) < (st.n : Int) := by omega
        have HLS := Lib.hid (show lastsF st.n mk k = true by unfold lastsF; rw [decide_eq_true hs]; rfl)
        go_upto_region 5 with (fail)
        have hb1 := Below.alloc (Below.refl wr.heap.size wr) (Nat.le_refl _) (Obj.cells #[.int .i64 (xi : Nat), .slice xA 512 xc] 51 (0, 0))
        have hn1 := heap_alloc_new wr (Obj.cells #[.int .i64 (xi : Nat), .slice xA 512 xc] 51 (0, 0))
        obtain ⟨u3, E3⟩ : ∃ u, wr.alloc (Obj.cells #[.int .i64 (xi : Nat), .slice xA 512 xc] 51 (0, 0)) = u := ⟨_, rfl⟩
        rw [E3] at hb1 hn1
        have hT1 : Ter wr (fun j => T j ∨ Fresh W wr j) := fun j e => e.elim (fun e => Nat.lt_of_lt_of_le (HH.out.ter j e) HR.out.1.size) (fun e => e.2)
        have HB3 := Lib.hid (HR.out.1.trans (hb1.mono HR.out.1.size))
        have HN3 := Lib.hid hn1
        have HT3 : Hid (Ter u3 (fun j => T j ∨ Fresh W u3 j)) := Lib.hid (fun j e => e.elim (fun e => Nat.lt_of_lt_of_le (HH.out.ter j e) HB3.out.size) (fun e => e.2))
        have HL3 := Lib.hid (HR.out.2.1.1.on (W' := u3) (T' := fun j => T j ∨ Fresh W u3 j) (fun j e => e.imp id (Fresh.more hb1.size j)) (fun j hj => hb1.block j (hT1 j hj)))
        have HX3 : Hid (SvAt u3 (fun j => T j ∨ Fresh W u3 j) ⟨xA, xc, xb⟩) := Lib.hid (HX.out.on (fun j e => .inl e) (fun j h1 _ => HB3.out.block j (HH.out.ter j h1)))
        have HEN := Lib.hid (show (#[.int .i64 (xi : Nat), .slice xA 512 xc] : Array Value).toList = encW (xi, ⟨xA, xc, xb⟩) by unfold encW SV.v; rw [HXL.out])
        have HV := Lib.hid HR.out.2.2
        obtain ⟨A3, c3, es⟩ := HR.out.2.1.1.shape
        have HRB := Lib.hid HR.out.2.1.2
        obtain ⟨q3, hq3⟩ : ∃ q, Hid (V.length = q) := ⟨_, Lib.hid rfl⟩
        rw [hq3.out] at es
        subst es
        clear hb1 hn1 hT1 HR
        go_wp2_with (at_builtin; refine wp_appW HL3.out HT3.out (xi, ⟨xA, xc, xb⟩) HX3.out HN3.out HEN.out (by have h1 := HV.out.1; have h2 := HLE.out; have h3 := HKK.out; omega) (by rfl) _ _ (by rfl) (by rfl) 1 (by rfl) ?_; intro v5 w5 hr5 hg5; have HR5 := Lib.hid hr5; have HG5 := Lib.hid hg5; clear hr5 hg5)
        go_roundg (U.length - (k + 1))
        case measure => have := HKK.out; omega
        case rel =>
          have hs5 := HG5.out.size
          have hs3 := HB3.out.size
          have hb5 : Below W.heap.size W w5 := HB3.out.grown HG5.out hs3 (fun j e => HRB.out j e)
          refine ⟨k + 1, V ++ [(xi, ⟨xA, xc, xb⟩)], by go_num, by omega, rfl, Lib.hid ⟨hb5, ⟨HR5.out.1 _ (fun j e => e.imp id (Fresh.more hs5 j)) (fun e => .inr ⟨by omega, e⟩), fun j e => (HR5.out.2 j e).elim (fun e2 => HRB.out j e2) (fun e2 => by omega)⟩, by rw [List.length_append]; have := HV.out.1; simp only [List.length_cons, List.length_nil]; omega, ?_⟩⟩
          rw [HW.out, keepF_push, Nat.zero_add, HLK.out, if_pos HLS.out, List.map_append, HV.out.2]
          rfl
      · have hs1 : ¬ (k : Int) < (st.n : Int) := by omega
        obtain ⟨j, hj⟩ : ∃ j : Nat, Hid (k = st.n + j) := ⟨k - st.n, Lib.hid (by omega)⟩
        have HLS0 := Lib.hid (show lastsF st.n mk k = mk.testBit (j % 64) by
          unfold lastsF
          rw [decide_eq_false hs, hj.out, Nat.add_sub_cancel_left]; rfl)
        have e1 : (k : Int) - (st.n : Int) = (j : Int) := by have := hj.out; omega
        have e2 : IntKind.i64.wrap (j : Int) = (j : Int) := wrap_in (by omega) (by have := hj.out; have := HLE.out; omega)
        have e3 : (j : Int).tmod 64 = ((j % 64 : Nat) : Int) := by rw [Int.tmod_eq_emod_of_nonneg (by omega)]; omega
        have e4 : IntKind.i64.wrap ((j % 64 : Nat) : Int) = ((j % 64 : Nat) : Int) := wrap_in (by omega) (by omega)
        have e5 : IntKind.u64.wrap ((j % 64 : Nat) : Int) = ((j % 64 : Nat) : Int) := by rw [IntKind.wrap_u64]; omega
        have hbit := bit_is (i := j % 64) HM.out
        cases hmb : mk.testBit (j % 64)
        · rw [hmb] at hbit HLS0
          clear hmb hs
          have HRR := Lib.hid HR.out
          clear HR
          go_wp2_with fail
          go_roundg (U.length - (k + 1))
          case measure => have := HKK.out; omega
          case rel =>
            refine ⟨k + 1, V, by go_num, by omega, rfl, Lib.hid ⟨HRR.out.1, HRR.out.2.1, by have := HRR.out.2.2.1; omega, ?_⟩⟩
            rw [HW.out, keepF_push, Nat.zero_add, HLK.out, HLS0.out, if_neg (by decide), List.append_nil]
            exact HRR.out.2.2.2
        · rw [hmb] at hbit HLS0
          have HLS := HLS0
          clear hmb hs
          go_upto_region 5 with (fail)
          have hb1 := Below.alloc (Below.refl wr.heap.size wr) (Nat.le_refl _) (Obj.cells #[.int .i64 (xi : Nat), .slice xA 512 xc] 51 (0, 0))
          have hn1 := heap_alloc_new wr (Obj.cells #[.int .i64 (xi : Nat), .slice xA 512 xc] 51 (0, 0))
          obtain ⟨u3, E3⟩ : ∃ u, wr.alloc (Obj.cells #[.int .i64 (xi : Nat), .slice xA 512 xc] 51 (0, 0)) = u := ⟨_, rfl⟩
          rw [E3] at hb1 hn1
          have hT1 : Ter wr (fun j => T j ∨ Fresh W wr j) := fun j e => e.elim (fun e => Nat.lt_of_lt_of_le (HH.out.ter j e) HR.out.1.size) (fun e => e.2)
          have HB3 := Lib.hid (HR.out.1.trans (hb1.mono HR.out.1.size))
          have HN3 := Lib.hid hn1
          have HT3 : Hid (Ter u3 (fun j => T j ∨ Fresh W u3 j)) := Lib.hid (fun j e => e.elim (fun e => Nat.lt_of_lt_of_le (HH.out.ter j e) HB3.out.size) (fun e => e.2))
          have HL3 := Lib.hid (HR.out.2.1.1.on (W' := u3) (T' := fun j => T j ∨ Fresh W u3 j) (fun j e => e.imp id (Fresh.more hb1.size j)) (fun j hj => hb1.block j (hT1 j hj)))
          have HX3 : Hid (SvAt u3 (fun j => T j ∨ Fresh W u3 j) ⟨xA, xc, xb⟩) := Lib.hid (HX.out.on (fun j e => .inl e) (fun j h1 _ => HB3.out.block j (HH.out.ter j h1)))
          have HEN := Lib.hid (show (#[.int .i64 (xi : Nat), .slice xA 512 xc] : Array Value).toList = encW (xi, ⟨xA, xc, xb⟩) by unfold encW SV.v; rw [HXL.out])
          have HV := Lib.hid HR.out.2.2
          obtain ⟨A3, c3, es⟩ := HR.out.2.1.1.shape
          have HRB := Lib.hid HR.out.2.1.2
          obtain ⟨q3, hq3⟩ : ∃ q, Hid (V.length = q) := ⟨_, Lib.hid rfl⟩
          rw [hq3.out] at es
          subst es
          clear hb1 hn1 hT1 HR
          go_wp2_with (at_builtin; refine wp_appW HL3.out HT3.out (xi, ⟨xA, xc, xb⟩) HX3.out HN3.out HEN.out (by have h1 := HV.out.1; have h2 := HLE.out; have h3 := HKK.out; omega) (by rfl) _ _ (by rfl) (by rfl) 1 (by rfl) ?_; intro v5 w5 hr5 hg5; have HR5 := Lib.hid hr5; have HG5 := Lib.hid hg5; clear hr5 hg5)
          go_roundg (U.length - (k + 1))
          case measure => have := HKK.out; omega
          case rel =>
            have hs5 := HG5.out.size
            have hs3 := HB3.out.size
            have hb5 : Below W.heap.size W w5 := HB3.out.grown HG5.out hs3 (fun j e => HRB.out j e)
            refine ⟨k + 1, V ++ [(xi, ⟨xA, xc, xb⟩)], by go_num, by omega, rfl, Lib.hid ⟨hb5, ⟨HR5.out.1 _ (fun j e => e.imp id (Fresh.more hs5 j)) (fun e => .inr ⟨by omega, e⟩), fun j e => (HR5.out.2 j e).elim (fun e2 => HRB.out j e2) (fun e2 => by omega)⟩, by rw [List.length_append]; have := HV.out.1; simp only [List.length_cons, List.length_nil]; omega, ?_⟩⟩
            rw [HW.out, keepF_push, Nat.zero_add, HLK.out, if_pos HLS.out, List.map_append, HV.out.2]
            rfl
    · obtain rfl : k = U.length := by omega
      have hl1 : ¬ (U.length : Int) < (U.length : Int) := by omega
      obtain ⟨A3, c3, es⟩ := HR.out.2.1.1.shape
      obtain ⟨q3, hq3⟩ : ∃ q, Hid (V.length = q) := ⟨_, Lib.hid rfl⟩
      rw [hq3.out] at es
      subst es
      have hbg := (HR.out.1.block g (blk_lt HH.out.blk)).trans HH.out.blk
      have f1 := blk_frozen hbg 1
      have b1 := blk_set hbg 1 (.slice A3 q3 c3)
      simp only [List.setIfInBounds_toArray, List.set_cons_succ, List.set_cons_zero] at b1
      have f2 := blk_frozen b1 2
      have d2 : (wr.setCell ⟨g, 1, none⟩ (.slice A3 q3 c3)).cell? ⟨g, 2, none⟩ = _ := blk_cell b1 2
      have b2 := blk_set b1 2 (.int .i64 (q3 : Nat))
      simp only [List.setIfInBounds_toArray, List.set_cons_succ, List.set_cons_zero] at b2
      have f4 := blk_frozen b2 4
      have d4 : ((wr.setCell ⟨g, 1, none⟩ (.slice A3 q3 c3)).setCell ⟨g, 2, none⟩ (.int .i64 (q3 : Nat))).cell? ⟨g, 4, none⟩ = _ := blk_cell b2 4
      have b4 := blk_set b2 4 (.bool false)
      simp only [List.setIfInBounds_toArray, List.set_cons_succ, List.set_cons_zero] at b4
      have f3 := blk_frozen b4 3
      have d3 : (((wr.setCell ⟨g, 1, none⟩ (.slice A3 q3 c3)).setCell ⟨g, 2, none⟩ (.int .i64 (q3 : Nat))).setCell ⟨g, 4, none⟩ (.bool false)).cell? ⟨g, 3, none⟩ = _ := blk_cell b4 3
      have b3 := blk_set b4 3 (.int .i64 0)
      simp only [List.setIfInBounds_toArray, List.set_cons_succ, List.set_cons_zero] at b3
      have B3 := Lib.hid b3
      have HBG := Lib.hid hbg
      have HRR := Lib.hid HR.out
      clear hbg b1 b2 b3 b4 HR
      go_wp2_with fail
      go_end0
      refine ⟨rfl, ?_⟩
      have hf : Fr (· = g) wr ((((wr.setCell ⟨g, 1, none⟩ (.slice A3 q3 c3)).setCell ⟨g, 2, none⟩ (.int .i64 (q3 : Nat))).setCell ⟨g, 4, none⟩ (.bool false)).setCell ⟨g, 3, none⟩ (.int .i64 0)) :=
        (((Fr.set (F := (· = g)) rfl).trans (Fr.set (F := (· = g)) rfl) (fun _ _ h => h)).trans (Fr.set (F := (· = g)) rfl) (fun _ _ h => h)).trans (Fr.set (F := (· = g)) rfl) (fun _ _ h => h)
      have hlog : V.map WV.w = (crashS st mk).log := by
        rw [HRR.out.2.2.2, ← lasts_log HH.out.ok mk]
        congr 1
        rw [← HH.out.log, ← List.map_take, List.take_length]
      have hn2 : (crashS st mk).n = q3 := by
        have h1 : (crashS st mk).n = (crashS st mk).log.length := rfl
        rw [h1, ← hlog, List.length_map, hq3.out]
      have hok : (crashS st mk).ok := by
        obtain ⟨a, b, c, d⟩ := HH.out.ok
        refine ⟨Nat.le_refl _, fun w hw => ?_, by show ((0 : Nat) : Int) ≤ _; omega, d⟩
        rw [← lasts_log HH.out.ok mk] at hw
        exact b w (keepF_mem _ _ _ hw)
      have hT1 : Ter wr (fun j => T j ∨ Fresh W wr j) := fun j e => e.elim (fun e => Nat.lt_of_lt_of_le (HH.out.ter j e) HRR.out.1.size) (fun e => e.2)
      refine RkTo.trans (T1 := fun j => T j ∨ Fresh W wr j) (Fr.of HRR.out.1) ⟨fun j e => .inl e, fun j e => e.imp id (fun e => e.1)⟩ ⟨hf.mono (fun j _ e => ?_), _, Ext.refl _ _, .slice A3 q3 c3, V, { ok := hok, ter := hT1.on hf.1.size, here := .inl HH.out.here, blk := ?_, row := ?_, log := hlog }⟩
      · subst e
        exact ⟨.inl HH.out.here, no_byte HBG.out (by decide)⟩
      · show _ = some (Obj.cells #[_, _, .int .i64 ((crashS st mk).n : Nat), _, _] _ _)
        rw [hn2]
        exact B3.out
      · exact HRR.out.2.1.1.fr hT1 hf (fun j e => by subst e; exact no_byte HBG.out (by decide)) (fun j e => HRR.out.2.1.1.ne e HBG.out (by decide))
end Go.Proofs.Ytngfffbnofejmaa
