/- The library's Index and Contains at edges; the program's matched. -/
import Derived.Test.YtbcmnhbpomjinaaPgD
namespace Go.Proofs.Ytbcmnhbpomjinaa
open Go.RowKit
set_option maxRecDepth 100000 in
set_option maxHeartbeats 2000000 in
theorem indexE_any (es : List EdT) (A : Option Addr) (cap : Nat) (e : EdT) (hn : es.length ≤ 1000000) (w : World) (hr : Items w w.heap.size A encG es) :
    Calls Try.prog 74 #[.slice A es.length cap, .agg #[.int .i64 e.1.1, .int .i64 e.1.2, .int .i64 e.2.1, .int .i64 e.2.2]] w fun e' w' => ∃ n, e' = .returned (.int .i64 n) ∧ Plc es e n ∧ Below w.heap.size w w' := by
  have HR := Lib.hid (fun K W (h : Hold w K W) => hr.on h.1)
  have HQ := (Hold.refl w).new #[.int .i64 e.1.1, .int .i64 e.1.2, .int .i64 e.2.1, .int .i64 e.2.2] 60
  clear hr
  go_enter Try.func74, Try.ntmps74
  go_upto_region 1 with (fail)
  generalize (World.alloc _ _) = W1 at HQ ⊢
  obtain ⟨g0, hg0⟩ : ∃ g, w.heap.size = g := ⟨_, rfl⟩
  rw [hg0] at HQ ⊢
  have HG0 := Lib.hid hg0
  clear hg0
  go_wp2_with fail
  go_loopg [8] es.length (fun g i wr => ∃ k : Nat, k ≤ es.length ∧ g = es.length - k ∧ i = .int .i64 k ∧ (∀ j : Nat, j < k → es[j]? ≠ some e) ∧ Hold w [(g0, #[.int .i64 e.1.1, .int .i64 e.1.2, .int .i64 e.2.1, .int .i64 e.2.2], 60)] wr)
  case atStart => exact ⟨0, Nat.zero_le _, rfl, rfl, fun j hj => absurd hj (by omega), HQ⟩
  case round =>
    clear HQ
    obtain ⟨k, hk, hgk, rfl, hno, HB⟩ := hrel
    have HGK := Lib.hid hgk
    have HNO := Lib.hid hno
    clear hgk hno
    by_cases hlt : k < es.length
    · obtain ⟨ad, rfl, -, hc0, hc⟩ := Items.at kindG.len (HR.out _ _ HB) hlt
      have d0 := hc0 _ (by decide) rfl
      have d1 := hc 1 _ (by decide) (by decide) rfl
      have d2 := hc 2 _ (by decide) (by decide) rfl
      have d3 := hc 3 _ (by decide) (by decide) rfl
      obtain ⟨c0, c1, c2, c3⟩ := HB.q4 List.mem_cons_self
      have HAT : Hid (es[k]? = some es[k]) := List.getElem?_eq_getElem hlt
      have b0 : (0 : Int) ≤ (k : Int) := by omega
      have b1 : (k : Int) < (es.length : Int) := by omega
      have HGN : Hid (es[k] ≠ e → ∀ j : Nat, j < k + 1 → es[j]? ≠ some e) := fun h j hj hh => by
        by_cases ej : j = k
        · subst ej; rw [HAT.out] at hh; exact h (Option.some.inj hh)
        · exact HNO.out j (by omega) hh
      clear hc0 hc HR
      generalize es[k] = x at *
      have hw : (e.1.1 = x.1.1 ∧ e.1.2 = x.1.2 ∧ e.2.1 = x.2.1 ∧ e.2.2 = x.2.2) ∨ ¬ e.1.1 = x.1.1 ∨ (e.1.1 = x.1.1 ∧ ¬ e.1.2 = x.1.2) ∨ (e.1.1 = x.1.1 ∧ e.1.2 = x.1.2 ∧ ¬ e.2.1 = x.2.1) ∨ (e.1.1 = x.1.1 ∧ e.1.2 = x.1.2 ∧ e.2.1 = x.2.1 ∧ ¬ e.2.2 = x.2.2) := by omega
      go_upto_region 4 with (fail)
      rcases hw with ⟨h1, h2, h3, h4⟩ | h1 | ⟨h1, h2⟩ | ⟨h1, h2, h3⟩ | ⟨h1, h2, h3, h4⟩
      · have HP : Hid (Plc es e k) := .inr ⟨k, rfl, by rw [HAT.out]; exact congrArg some (Prod.ext (Prod.ext h1.symm h2.symm) (Prod.ext h3.symm h4.symm)), HNO.out⟩
        have e1 : (e.1.1 == x.1.1) = true := by simpa using h1
        have e2 : (e.1.2 == x.1.2) = true := by simpa using h2
        have e3 : (e.2.1 == x.2.1) = true := by simpa using h3
        have e4 : (e.2.2 == x.2.2) = true := by simpa using h4
        clear h1 h2 h3 h4 HGN HAT HNO HGK
        go_quiet (fail)
        have HK := Lib.hid (HB.drewN nq).1
        clear HB
        go_wp2
        go_ret
        exact ⟨_, rfl, HP.out, HK.out⟩
      · have HN := Lib.hid (HGN.out fun h => h1 (by rw [h]))
        have e1 : (e.1.1 == x.1.1) = false := by simpa using h1
        clear h1 HGN HAT HNO
        go_quiet (fail)
        have HK := Lib.hid (HB.drewN nq)
        clear HB
        go_wp2
        go_roundg (es.length - (k + 1))
        case measure => have := HGK.out; omega
        case rel => exact ⟨k + 1, by omega, rfl, by go_num, HN.out, HK.out⟩
      · have HN := Lib.hid (HGN.out fun h => h2 (by rw [h]))
        have e1 : (e.1.1 == x.1.1) = true := by simpa using h1
        have e2 : (e.1.2 == x.1.2) = false := by simpa using h2
        clear h1 h2 HGN HAT HNO
        go_quiet (fail)
        have HK := Lib.hid (HB.drewN nq)
        clear HB
        go_wp2
        go_roundg (es.length - (k + 1))
        case measure => have := HGK.out; omega
        case rel => exact ⟨k + 1, by omega, rfl, by go_num, HN.out, HK.out⟩
      · have HN := Lib.hid (HGN.out fun h => h3 (by rw [h]))
        have e1 : (e.1.1 == x.1.1) = true := by simpa using h1
        have e2 : (e.1.2 == x.1.2) = true := by simpa using h2
        have e3 : (e.2.1 == x.2.1) = false := by simpa using h3
        clear h1 h2 h3 HGN HAT HNO
        go_quiet (fail)
        have HK := Lib.hid (HB.drewN nq)
        clear HB
        go_wp2
        go_roundg (es.length - (k + 1))
        case measure => have := HGK.out; omega
        case rel => exact ⟨k + 1, by omega, rfl, by go_num, HN.out, HK.out⟩
      · have HN := Lib.hid (HGN.out fun h => h4 (by rw [h]))
        have e1 : (e.1.1 == x.1.1) = true := by simpa using h1
        have e2 : (e.1.2 == x.1.2) = true := by simpa using h2
        have e3 : (e.2.1 == x.2.1) = true := by simpa using h3
        have e4 : (e.2.2 == x.2.2) = false := by simpa using h4
        clear h1 h2 h3 h4 HGN HAT HNO
        go_quiet (fail)
        have HK := Lib.hid (HB.drewN nq)
        clear HB
        go_wp2
        go_roundg (es.length - (k + 1))
        case measure => have := HGK.out; omega
        case rel => exact ⟨k + 1, by omega, rfl, by go_num, HN.out, HK.out⟩
    · obtain rfl : k = es.length := by omega
      have HP : Hid (Plc es e (-1)) := .inl ⟨rfl, fun h => by
        obtain ⟨i, hi, rfl⟩ := List.getElem_of_mem h
        exact HNO.out i hi (List.getElem?_eq_getElem hi)⟩
      have HK := Lib.hid HB.1
      clear HB HNO HR
      go_wp2
      go_ret
      exact ⟨_, rfl, HP.out, HK.out⟩
set_option maxHeartbeats 1000000 in
theorem containsE_any (es : List EdT) (A : Option Addr) (cap : Nat) (e : EdT) (hn : es.length ≤ 1000000) (w : World) (hr : Items w w.heap.size A encG es) :
    Calls Try.prog 59 #[.slice A es.length cap, .agg #[.int .i64 e.1.1, .int .i64 e.1.2, .int .i64 e.2.1, .int .i64 e.2.2]] w fun e' w' => e' = .returned (.bool (decide (e ∈ es))) ∧ Below w.heap.size w w' := by
  have HQ := (Hold.refl w).new #[.int .i64 e.1.1, .int .i64 e.1.2, .int .i64 e.2.1, .int .i64 e.2.2] 60
  have HI := Lib.hid (fun W (h : Below w.heap.size w W) => indexE_any es A cap e hn W (hr.on h))
  obtain ⟨bb, hbb⟩ : ∃ b : Bool, decide (e ∈ es) = b := ⟨_, rfl⟩
  have HBB : Hid (∀ n, Plc es e n → decide (0 ≤ n) = bb) := fun n hp => by rw [← hbb]; exact decide_eq_decide.2 hp.pos
  rw [hbb]
  clear hr hbb
  go_enter Try.func59, Try.ntmps59
  go_upto_region 1 with (fail)
  generalize (World.alloc _ _) = W1 at HQ ⊢
  generalize w.heap.size = g0 at HQ ⊢
  obtain ⟨c0, c1, c2, c3⟩ := HQ.q4 List.mem_cons_self
  have HQ1 := Lib.hid HQ
  clear HQ
  go_wp2_with (go_at_call 74; go_must (refine (HI.out _ HQ1.out.1).mono ?_; rintro e' w' ⟨n, rfl, hp, hb⟩; have HP := Lib.hid (HBB.out n hp); have HB := Lib.hid (HQ1.out.on hb).1; clear hp hb))
  go_ret
  exact ⟨by rw [← HP.out]; rfl, HB.out⟩

theorem Items.wide {α : Type} {w : World} {B B' : Nat} {A : Option Addr} {enc : α → List Value} {l : List α} (h : Items w B A enc l) (hB : B ≤ B') : Items w B' A enc l := fun hl => by
  obtain ⟨ad, e, hb, hc⟩ := h hl
  exact ⟨ad, e, Nat.lt_of_lt_of_le hb hB, hc⟩
/-- What 'matched' tells. -/
def MatchP (ks : List EdT) (o : List (Int × Int)) : Prop := ((freeOf ks ks).map Prod.fst).Nodup ∧ (∀ e ∈ freeOf ks ks, e ∈ edg o) ∧ (freeOf ks ks).length = o.length
noncomputable def matchB (ks : List EdT) (o : List (Int × Int)) : Bool := @decide (MatchP ks o) (Classical.propDecidable _)
theorem matchB_iff {ks : List EdT} {o : List (Int × Int)} : matchB ks o = true ↔ MatchP ks o := by unfold matchB; exact @decide_eq_true_iff _ (Classical.propDecidable _)
theorem matchB_not {ks : List EdT} {o : List (Int × Int)} : matchB ks o = false ↔ ¬ MatchP ks o := by rw [← matchB_iff, Bool.not_eq_true]
set_option maxRecDepth 100000 in
set_option maxHeartbeats 4000000 in
theorem matched_any (b : Nat) (L : List (EdT × Int)) (o : List (Int × Int)) (A : Option Addr) (cap : Nat) (hn : o.length ≤ 1000000) (w : World) (hm : MapIs w b gv iv OkE L) (hr : Pts w w.heap.size A o) :
    Calls Try.prog 39 #[.map (some b), .slice A o.length cap] w fun e w' => e = .returned (.bool (matchB (L.map Prod.fst) o)) ∧ Below w.heap.size w w' := by
  have HA := Lib.hid (around_any b L w hm)
  have HE := Lib.hid (fun W (h : Below w.heap.size w W) => edges_any o A cap hn W (hr.on h))
  generalize hks : L.map Prod.fst = ks at *
  clear hm hr hks
  have HO := Lib.hid hn
  clear hn
  go_enter Try.func39, Try.ntmps39
  go_wp2_with fail
  go_at_call 58
  refine HA.out.mono ?_
  rintro e w1 ⟨HB1, ⟨rfl, hnd⟩ | ⟨b2, S, rfl, hb2, hS, hp⟩⟩
  · have HF : Hid (matchB ks o = false) := matchB_not.2 fun h => hnd h.1
    have HB := Lib.hid HB1
    clear hnd HB1 HA
    have hrg := fun W => run_range_nilMap (P := Try.prog) W 92 43 43 Try.underlying92
    have hnx : ∀ (W : World) ty, (Instr.next (.pointer (some ⟨W.heap.size, 0, none⟩)) false ty).run Try.prog (W.alloc (.mapIter none 0 #[] 0)) = _ := fun W ty => run_next_nilMap W ty 0 0 #[]
    go_wp2_with fail
    go_at_call 57
    refine (HE.out _ HB.out).mono ?_
    rintro e w2 ⟨v, rfl, HV⟩
    have HB2 := Lib.hid (Below.trans HB.out (HV.1.mono HB.out.size))
    obtain ⟨A1, c1, rfl, -, -⟩ := HV.items
    clear HV
    have hrg2 := hrg w2
    have hnx2 := hnx w2
    clear hrg hnx
    go_wp2
    refine wp_loop_rounds 1 ?_
    rw [rounds_succ]
    go_wp2
    go_ret
    rw [HF.out]
    exact ⟨rfl, HB2.out.alloc HB2.out.size _⟩
  · have HB := Lib.hid HB1
    have HP := Lib.hid hp
    have HSS := Lib.hid hS
    have HND := Lib.hid ((hp.map Prod.fst).nodup_iff.1 hS.nodup)
    have HB2L := Lib.hid hb2
    clear hp HB1 HA hS hb2
    go_wp2_with fail
    go_at_call 57
    refine (HE.out _ HB.out).mono ?_
    rintro e w2 ⟨v, rfl, HV⟩
    have HB2 := Below.trans HB.out (HV.1.mono HB.out.size)
    obtain ⟨A1, c1, hv1, HI, -⟩ := HV.items
    have HNE : Hid (∀ ad, A1 = some ad → ad.block < w2.heap.size) := fun ad e => (HV.2.lt ad.block (by rw [hv1, e]; rfl)).2
    subst hv1
    have HS2 := HSS.out.on HV.1 HSS.out.lt
    have HW := Lib.hid HB2
    have HEL : Hid ((edg o).length = o.length) := edg_len o
    have HIS := Lib.hid HI
    clear HV HE HB2 HI
    generalize hes : edg o = es at *
    have HES := Lib.hid hes
    clear hes
    go_wp2_with (at_range; refine wp_range rfl _ 92 rfl 43 43 Try.underlying92 b2 rfl HS2 ?_; intro W3 HR3 hg3 hs3)
    go_frame
    have HI3 := HIS.out.on (show Below w2.heap.size w2 W3 from ⟨hg3.os, hg3.tape, hg3.output, hg3.size, fun k hk => hg3.block k hk (by simp)⟩)
    have HB3 : Below w.heap.size w W3 := HW.out.grown hg3 HW.out.size (fun k e => by cases e)
    have HIX := Lib.hid HI3
    have HWX := Lib.hid HB3
    have HRL : Hid (w.heap.size ≤ w2.heap.size) := HW.out.size
    clear HS2 hg3 hs3 HI3 HB3
    generalize w2.heap.size = r at *
    go_loopg [] S.length (fun g wr => ∃ left, g = left.length ∧ Ranges wr b2 r pv pv OkP S left ∧ (∀ p ∈ S, p ∈ left ∨ p ∈ es) ∧ Items wr wr.heap.size A1 encG es ∧ Below w.heap.size w wr)
    case atStart => exact ⟨S, rfl, HR3, fun p hp => .inl hp, HIX.out, HWX.out⟩
    case round =>
      clear HR3 HIX HWX
      obtain ⟨left, hgl, HR, hin, HI, HB⟩ := hrel
      have HGL := Lib.hid hgl
      have HRS := Lib.hid HR
      have HIN := Lib.hid hin
      have HIS := Lib.hid HI
      have HBS := Lib.hid HB
      clear hgl HR hin HI HB
      go_wp2_with (
        (at_next; refine wp_next rfl _ rfl r rfl HRS.out ?_ (fun l1 p l2 W5 hl hrg hg5 hs5 hen => ?_); rotate_left; (simp only [pv] at hen ⊢); (have HL := Lib.hid hl); (have HRG := Lib.hid hrg); (have HG5 := Lib.hid hg5); clear hl hrg hg5 hs5; rotate_left))
      · intro hnil
        have hlen : ∀ ty, (Builtin.len_ #[92] ty #[.map (some b2)]).run Try.prog wr = .ok (.int .i64 S.length) wr := fun ty => HRS.out.isMap.len Try.underlying92 ty
        have HALL : Hid (∀ e ∈ freeOf ks ks, e ∈ es) := fun e he => by
          rcases HIN.out e (HP.out.mem_iff.2 he) with h | h
          · rw [hnil] at h; cases h
          · exact h
        have HEQ : Hid (((S.length : Int) == (es.length : Int)) = matchB ks o) := by
          unfold Hid
          rw [Bool.eq_iff_iff, matchB_iff, beq_iff_eq, HEL.out, HP.out.length_eq]
          exact ⟨fun h => ⟨HND.out, by rw [HES.out]; exact HALL.out, by omega⟩, fun h => by have := h.2.2; omega⟩
        clear hnil
        go_wp2
        go_ret
        exact ⟨by rw [← HEQ.out]; rfl, HBS.out⟩
      · have hg5 := HG5.out
        have HI5 := (HIS.out.but hg5 (fun ad e h => by have := HNE.out ad e; have := Option.some.inj h; omega)).wide hg5.size
        have HR5 := HRG.out
        have HB5 : Below w.heap.size w W5 := HBS.out.grown hg5 HBS.out.size (fun k e => by have := HRL.out; have := Option.some.inj e; omega)
        have HLN : Hid ((l1 ++ l2).length < left.length) := by unfold Hid; rw [HL.out]; simp
        have HPS : Hid (p ∈ S) := by
          obtain ⟨_, _, _, _, _, _, _, _, _, _, _, _, _, _, hsub⟩ := HRS.out
          exact hsub.subset (by rw [HL.out]; exact List.mem_append_right _ List.mem_cons_self)
        have h6 := (Below.refl _ W5).alloc (Nat.le_refl _) (.cells #[.int .i64 p.1.1, .int .i64 p.1.2] 43 (0, 0))
        have h7 := h6.alloc h6.size (.cells #[.int .i64 p.2.1, .int .i64 p.2.2] 43 (0, 0))
        have HI7 := HI5.on h7
        have HR7 := (HR5.alloc (.cells #[.int .i64 p.1.1, .int .i64 p.1.2] 43 (0, 0))).alloc (.cells #[.int .i64 p.2.1, .int .i64 p.2.2] 43 (0, 0))
        have HB7 := Below.trans HB5 (h7.mono HB5.size)
        have HOE := HO.out
        clear HI5 HR5 HB5 h6 h7 HRG HG5 hg5 hen
        generalize (World.alloc _ _) = W7 at HI7 HR7 HB7 ⊢
        go_at_call 59
        refine (containsE_any es A1 c1 p (by rw [HEL.out]; exact HOE) W7 HI7).mono ?_
        rintro e' W8 ⟨rfl, hB8⟩
        have HI8 := Lib.hid (HI7.on hB8)
        have HR8 := Lib.hid (HR7.on hB8 HR7.isMap.lt HR7.lt)
        have HB8 := Lib.hid (Below.trans HB7 (hB8.mono HB7.size))
        clear HI7 HR7 HB7 hB8 HOE
        by_cases hp : p ∈ es
        · rw [decide_eq_true hp]
          have HN : Hid (∀ q ∈ S, q ∈ l1 ++ l2 ∨ q ∈ es) := fun q hq => by
            rcases HIN.out q hq with h | h
            · rw [HL.out] at h
              rcases List.mem_append.1 h with h | h
              · exact .inl (List.mem_append_left _ h)
              · rcases List.mem_cons.1 h with rfl | h
                · exact .inr hp
                · exact .inl (List.mem_append_right _ h)
            · exact .inr h
          clear hp
          go_wp2_with fail
          go_roundg ((l1 ++ l2).length)
          case measure => have := HGL.out; have := HLN.out; omega
          case rel => exact ⟨l1 ++ l2, rfl, HR8.out, HN.out, HI8.out, HB8.out⟩
        · rw [decide_eq_false hp]
          have HF : Hid (matchB ks o = false) := matchB_not.2 fun h => hp (by have := h.2.1 p (HP.out.mem_iff.1 HPS.out); rwa [HES.out] at this)
          clear hp
          go_wp2
          go_ret
          rw [HF.out]
          exact ⟨rfl, HB8.out⟩
end Go.Proofs.Ytbcmnhbpomjinaa
