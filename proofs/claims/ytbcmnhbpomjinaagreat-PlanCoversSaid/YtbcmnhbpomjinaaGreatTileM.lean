/- The program's Cover: whose a spot is. -/
import Derived.Test.YtbcmnhbpomjinaaGreatSpotB
import Derived.Test.YtbcmnhbpomjinaaGreatLeft
import Derived.Test.YtbcmnhbpomjinaaGreatRefCov
import Derived.Test.YtbcmnhbpomjinaaGreatPlanB
namespace Go.Proofs.YtbcmnhbpomjinaaGreat
open Go.RowKit

/-- The numbers of the parcels at which a spot is so. -/
def idsAt (l : List PV) (x y m v : Int) : List Int := (l.filter fun z => spS z.par.ring x y m == v).map fun z => z.par.id
theorem idsAt_take {l : List PV} {k : Nat} (hk : k < l.length) (x y m v : Int) : idsAt (l.take (k + 1)) x y m v = if spS l[k].par.ring x y m = v then idsAt (l.take k) x y m v ++ [l[k].par.id] else idsAt (l.take k) x y m v := by
  rw [List.take_succ_eq_append_getElem hk]
  unfold idsAt
  rw [List.filter_append, List.map_append]
  by_cases h : spS l[k].par.ring x y m = v
  · rw [if_pos h, List.filter_cons_of_pos (by simpa using h)]; rfl
  · rw [if_neg h, List.filter_cons_of_neg (by simpa using h)]; simp
theorem idsAt_len (l : List PV) (x y m v : Int) (k : Nat) : (idsAt (l.take k) x y m v).length ≤ k := by
  unfold idsAt
  rw [List.length_map]
  exact Nat.le_trans (List.length_filter_le _ _) (by rw [List.length_take]; omega)
/-- Which error Cover tells. -/
noncomputable def cvE (o : List (Int × Int)) (l : List PV) (x y m : Int) : Int := if chkB o l then spE x y m else 2
theorem cvE_bad {o : List (Int × Int)} {l : List PV} (x y m : Int) (h : chkB o l = false) : cvE o l x y m = 2 := by unfold cvE; rw [h]; rfl
theorem cvE_good {o : List (Int × Int)} {l : List PV} (x y m : Int) (h : chkB o l = true) : cvE o l x y m = spE x y m := by unfold cvE; rw [h]; rfl
/-- What Cover answers. -/
def CoverAt (w w' : World) (o : List (Int × Int)) (l : List PV) (x y m : Int) (e : Ending) : Prop :=
  Below w.heap.size w w' ∧ ((cvE o l x y m ≠ 0 ∧ e = .returned (.tuple #[.slice none 0 0, .slice none 0 0, .int .i64 (cvE o l x y m)])) ∨
    (cvE o l x y m = 0 ∧ ∃ A1 c1 A2 c2, e = .returned (.tuple #[.slice A1 (idsAt l x y m 1).length c1, .slice A2 (idsAt l x y m 0).length c2, .int .i64 0]) ∧ Items w' w'.heap.size A1 encN (idsAt l x y m 1) ∧ Items w' w'.heap.size A2 encN (idsAt l x y m 0)))
section
variable {α : Type} {T : TypeId} {enc : α → List Value} {n bytes : Nat} {w0 W W' : World} {v : Value} {l : List α}
theorem RowI.kept {row : Option Nat} (h : RowI w0 T n enc v l W) (hB : Below w0.heap.size w0 W') (hg : W.grownBy W' row) (hne : v.ownBlock = none ∨ v.ownBlock ≠ row) : RowI w0 T n enc v l W' := ⟨hB, h.2.kept hg hne⟩
/-- One item more, and where the slice lies then. -/
theorem append_itemA (K : Kind T enc n bytes) {TS : TypeId} (hT : Tryz.prog.underlying TS = some (.slice T)) (HR : RowI w0 T n enc v l W) (x : α) (t' : TypeId) {cs : Array Value} (hcs : cs.toList = enc x)
    (hn : l.length + 1 ≤ maxLen) (hb : (l.length + 1) * bytes ≤ 140737488355328)
    {ops : Array Oper} {rest : List Oper} {o : Oper} {a : Act} {Q : Exit → Act → World → Prop} (hgd : o.guard = none) (s y : Operand)
    (ho : o.op = .call { callee := .builtin .append, args := #[s, y], argTypes := #[TS, TS] })
    (hs : a.eval s = v) (c : Nat) (hx : a.eval y = .slice (some ⟨W.heap.size, 0, none⟩) 1 c)
    (h : ∀ v' w', RowI w0 T n enc v' (l ++ [x]) w' → (W.alloc (Obj.cells cs t' (0, 0))).grownBy w' v.ownBlock → (v'.ownBlock = v.ownBlock ∨ v'.ownBlock = some (W.heap.size + 1)) → wpList Tryz.prog ops Q rest (a.put o.dst v') w') :
    wpList Tryz.prog ops Q (o :: rest) a (W.alloc (Obj.cells cs t' (0, 0))) := by
  obtain ⟨i0, z, hi, hz0, hz1, hz2, hz3⟩ := K.info
  have hA := HR.alloc (Obj.cells cs t' (0, 0))
  have hnew := heap_alloc_new W (Obj.cells cs t' (0, 0))
  refine wpList_append_own_at _ hgd s y TS ho w0.heap.size T i0 z n bytes hT hi hz0 hz1 hz2 hz3 K.pos v l.length (l.flatMap enc) hs hA.2 ⟨W.heap.size, 0, none⟩ 1 c (enc x) hx (by rw [K.len, Nat.one_mul]) ?_ (K.one x) hn hb hA.1.size ?_
  · intro j u hu
    rw [add_off, blk_cell hnew, ← hu, ← hcs, Array.getElem?_toList]
  · intro v' w' hown hgrow _ hat
    refine h v' w' ⟨grownB hA.1 (Nat.le_refl _) hgrow (fun k hk => (hA.2.lt k hk).1), ?_⟩ hgrow (by rw [World.size_alloc] at hat; exact hat)
    rw [List.length_append, List.flatMap_append, List.flatMap_cons, List.flatMap_nil, List.append_nil]
    exact hown
end
/-- Two slices of numbers of the call's own, that lie apart. -/
def Two (w : World) (v1 : Value) (l1 : List Int) (v2 : Value) (l2 : List Int) (W : World) : Prop :=
  RowI w 3 1 encN v1 l1 W ∧ RowI w 3 1 encN v2 l2 W ∧ ∀ g, v1.ownBlock = some g → v2.ownBlock ≠ some g
section
variable {w W W' : World} {v1 v2 : Value} {l1 l2 : List Int}
theorem Two.swap (h : Two w v1 l1 v2 l2 W) : Two w v2 l2 v1 l1 W := ⟨h.2.1, h.1, fun g h2 h1 => h.2.2 g h1 h2⟩
theorem Two.on (h : Two w v1 l1 v2 l2 W) (hb : Below W.heap.size W W') : Two w v1 l1 v2 l2 W' := ⟨h.1.on hb, h.2.1.on hb, h.2.2⟩
theorem Two.more {v' : Value} {x : Int} {o : Obj} (h : Two w v1 l1 v2 l2 W) (h1 : RowI w 3 1 encN v' (l1 ++ [x]) W') (hg : (W.alloc o).grownBy W' v1.ownBlock) (ha : v'.ownBlock = v1.ownBlock ∨ v'.ownBlock = some (W.heap.size + 1)) : Two w v' (l1 ++ [x]) v2 l2 W' := by
  refine ⟨h1, (h.2.1.alloc o).kept h1.1 hg ?_, fun g hv h2 => ?_⟩
  · cases h2 : v2.ownBlock with
    | none => exact .inl rfl
    | some g => exact .inr fun e => h.2.2 g e.symm h2
  · rcases ha with ha | ha
    · exact h.2.2 g (ha.symm.trans hv) h2
    · have := (h.2.1.2.lt g h2).2
      have := Option.some.inj (ha.symm.trans hv)
      omega
theorem two_types {a c : Nat} {b d : Array Value} {t1 t2 T : TypeId} (h1 : t1 ≠ T) (h2 : t2 ≠ T) : ∀ e ∈ [(a, b, t1), (c, d, t2)], e.2.2 ≠ T := fun e he => by
  rcases List.mem_cons.1 he with rfl | he
  · exact h1
  · rw [List.mem_singleton.1 he]; exact h2
/-- Blocks that are no numbers stay. -/
theorem Hold.more {L : List (Nat × Array Value × TypeId)} {v' : Value} {x : Int} {o : Obj} (h : Hold w L W) (hl : RowI w 3 1 encN v1 l1 W) (h1 : RowI w 3 1 encN v' (l1 ++ [x]) W') (hg : (W.alloc o).grownBy W' v1.ownBlock) (ht : ∀ e ∈ L, e.2.2 ≠ 3) : Hold w L W' :=
  (h.alloc o).grow h1.1 hg fun e he => row_block hl.2 (h.2.1 e he).1 (ht e he)
end
set_option maxRecDepth 100000 in
set_option maxHeartbeats 2000000 in
theorem Cover_any (o : List (Int × Int)) (Ao : Option Addr) (co : Nat) (l : List PV) (Ap : Option Addr) (cp : Nat) (x y m : Int) (hl : l.length ≤ 1000000) (ho : o.length ≤ 8796093022208) (hown : ∀ x ∈ l, x.par.own.size ≤ maxLen) (w : World) (h : PlanAt w o Ao co l Ap cp) :
    Calls Tryz.prog 27 #[.agg #[.slice Ao o.length co, .slice Ap l.length cp], .int .i64 x, .int .i64 y, .int .i64 m] w fun e' w' => CoverAt w w' o l x y m e' := by
  have HCK := Lib.hid (fun W (hb : Below w.heap.size w W) => check_any hl ho hown (h.on hb))
  have HPR := Lib.hid (fun W (hb : Below w.heap.size w W) => h.prs.on hb)
  have HSP := Lib.hid (fun W => spotAt_any x y m W)
  have HL := Lib.hid hl
  have HQ := (Hold.refl w).new #[.slice Ao o.length co, .slice Ap l.length cp] 26
  clear h hl ho hown
  go_enter Tryz.func27, Tryz.ntmps27
  go_upto_region 1 with (fail)
  generalize (World.alloc _ _) = W1 at HQ ⊢
  obtain ⟨g0, hg0⟩ : ∃ g, w.heap.size = g := ⟨_, rfl⟩
  have HQ0 := Lib.hid HQ
  rw [hg0] at HQ ⊢
  have HG0 := Lib.hid hg0
  clear hg0
  obtain ⟨c0, c1⟩ := HQ.pt (.head _)
  have HQX := Lib.hid HQ
  clear HQ
  go_wp2_with fail
  go_at_call 43
  refine (HCK.out _ HQ0.out.1).mono ?_
  rintro e' W2 ⟨rfl, hB⟩
  have hq := HQX.out.on hB
  have HQ2 := Lib.hid hq
  clear c0 c1 hB
  obtain ⟨c0, c1⟩ := hq.pt (.head _)
  clear hq
  cases hcb : chkB o l
  · rw [ckR_false hcb]
    have HEE := Lib.hid (cvE_bad x y m hcb)
    have HNZ : Hid (cvE o l x y m ≠ 0) := by unfold Hid; rw [HEE.out]; decide
    have HB9 := Lib.hid HQ2.out.1
    clear hcb
    go_wp2
    refine bodyPost_ret (v := .tuple #[.slice none 0 0, .slice none 0 0, .int .i64 (cvE o l x y m)]) ?_ rfl ⟨HB9.out, .inl ⟨HNZ.out, rfl⟩⟩
    rw [HEE.out]
    simp [results, Tryz.results27, go_sem]
  · rw [ckR_true hcb]
    have HCP : Hid (CheckP o l) := chkB_iff.1 hcb
    have HEQ := Lib.hid (cvE_good x y m hcb)
    clear hcb
    go_wp2_with fail
    go_at_call 56
    refine (HSP.out _).mono ?_
    rintro e' W3 ⟨⟨hne, rfl⟩ | ⟨he0, rfl⟩, hB⟩
    · have HB9 := Lib.hid (HQ2.out.on hB).1
      have HNZ : Hid (cvE o l x y m ≠ 0) := by unfold Hid; rw [HEQ.out]; exact hne
      have HEE := Lib.hid HEQ.out
      have e1 : (spE x y m == 0) = false := by simpa using hne
      have e2 : (spE x y m != 0) = true := by simpa using hne
      have HQ3 := Lib.hid ((HQ2.out.on hB).alloc (Obj.cells #[.int .i64 0, .int .i64 0, .int .i64 0] 91 (0, 0)))
      clear hne hB c0 c1 HB9
      have HB9 := Lib.hid HQ3.out.1
      generalize spE x y m = ee at *
      go_wp2
      refine bodyPost_ret (v := .tuple #[.slice none 0 0, .slice none 0 0, .int .i64 (cvE o l x y m)]) ?_ rfl ⟨HB9.out, .inl ⟨HNZ.out, rfl⟩⟩
      rw [HEE.out]
      simp [results, Tryz.results27, go_sem]
    · have hq3 := (HQ2.out.on hB).new #[.int .i64 x, .int .i64 y, .int .i64 m] 91
      have HSO : Hid (SpOk x y m) := spE_iff.1 he0
      have HE0 : Hid (cvE o l x y m = 0) := HEQ.out.trans he0
      have HTW : Two w (.slice none 0 0) (idsAt (l.take 0) x y m 1) (.slice none 0 0) (idsAt (l.take 0) x y m 0) (W3.alloc (Obj.cells #[.int .i64 x, .int .i64 y, .int .i64 m] 91 (0, 0))) := ⟨RowI.nil hq3.1, RowI.nil hq3.1, fun g hg => by cases hg⟩
      have HQ3 := Lib.hid hq3
      have HTW3 := Lib.hid HTW
      clear hB c0 c1 he0 HEQ HTW
      go_upto_region 5 with (fail)
      generalize (World.alloc _ _) = W4 at hq3 HQ3 HTW3 ⊢
      generalize W3.heap.size = g11 at hq3 HQ3 ⊢
      obtain ⟨c0, c1⟩ := hq3.pt (.tail _ (.head _))
      clear hq3
      go_wp2_with fail
      clear c0 c1
      go_loopg [8, 9, 32] l.length (fun g v1 v2 i wr => ∃ k : Nat, k ≤ l.length ∧ g = l.length - k ∧ i = .int .i64 k ∧ Two w v1 (idsAt (l.take k) x y m 1) v2 (idsAt (l.take k) x y m 0) wr ∧ Hold w [(g11, #[.int .i64 x, .int .i64 y, .int .i64 m], 91), (g0, #[.slice Ao o.length co, .slice Ap l.length cp], 26)] wr)
      case atStart => exact ⟨0, Nat.zero_le _, rfl, rfl, HTW3.out, HQ3.out⟩
      case round =>
        obtain ⟨k, hk, hgk, rfl, HT, HB⟩ := hrel
        have HGK := Lib.hid hgk
        clear hgk
        by_cases hlt : k < l.length
        · have hw := HPR.out _ HB.1
          obtain ⟨ad, rfl, -, d0, d1, d2⟩ := hw.at hlt
          have hp := (hw.2 l[k] (List.getElem_mem hlt)).1
          have HP := Lib.hid hp
          have hnm := check_ring HCP.out (List.getElem_mem hlt)
          have hsm := normP_small hnm
          have HSD := Lib.hid (fun W (hr : Pts W W.heap.size l[k].A l[k].par.ring) => spside_any x y m l[k].par.ring l[k].A l[k].cap HSO.out (by omega) (fun e he => edg_gd hsm.2.2 he) W hr)
          have HI1 := Lib.hid (idsAt_take hlt x y m 1)
          have HI0 := Lib.hid (idsAt_take hlt x y m 0)
          have HN1 := Lib.hid (idsAt_len l x y m 1 k)
          have HN0 := Lib.hid (idsAt_len l x y m 0 k)
          have hsv := spS_vals l[k].par.ring x y m
          have b0 : (0 : Int) ≤ (k : Int) := by omega
          have b1 : (k : Int) < (l.length : Int) := by omega
          have b9 : (l.length : Int) ≤ 1000000 := by have := HL.out; omega
          have HKB : Hid (k ≤ 1000000) := by unfold Hid; have := HL.out; omega
          clear hw hp hnm hsm
          generalize idsAt (l.take k) x y m 1 = l1 at *
          generalize idsAt (l.take k) x y m 0 = l0 at *
          generalize l[k] = z at *
          generalize spS z.par.ring x y m = sv at *
          have HQ5 := HB.new #[.int .i64 z.par.id, .slice z.A z.par.ring.length z.cap, .string z.par.own] 34
          have HP5 := HP.out.on ((Below.refl _ wr).alloc (Nat.le_refl _) (.cells #[.int .i64 z.par.id, .slice z.A z.par.ring.length z.cap, .string z.par.own] 34 (0, 0)))
          have HT5 := HT.on ((Below.refl _ wr).alloc (Nat.le_refl _) (.cells #[.int .i64 z.par.id, .slice z.A z.par.ring.length z.cap, .string z.par.own] 34 (0, 0)))
          clear HP HB HT
          go_upto_region 10 with (fail)
          generalize (World.alloc _ _) = W5 at HQ5 HP5 HT5 ⊢
          generalize wr.heap.size = g13 at HQ5 ⊢
          clear d0 d1 d2
          have s0 := HQ5.cell (.tail _ (.head _)) 0
          have s1 := HQ5.cell (.tail _ (.head _)) 1
          have s2 := HQ5.cell (.tail _ (.head _)) 2
          have d1 := HQ5.cell (.head _) 1
          simp only [List.getElem?_toArray, List.getElem?_cons_zero, List.getElem?_cons_succ] at s0 s1 s2 d1
          have HSC := Lib.hid (HSD.out _ HP5)
          have HQ6 := Lib.hid HQ5
          have HT6 := Lib.hid HT5
          clear HQ5 HT5 HP5
          go_wp2_with fail
          go_at_call 57
          refine HSC.out.mono ?_
          rintro e' W6 ⟨rfl, hB⟩
          have hq7 := HQ6.out.on hB
          have ht7 := HT6.out.on hB
          have d0 := hq7.cell (.head _) 0
          simp only [List.getElem?_toArray, List.getElem?_cons_zero] at d0
          have HQ7 := Lib.hid hq7.tail
          have HT7 := Lib.hid ht7
          clear hB hq7 ht7 s0 s1 s2 d1 HSC HSD
          rcases hsv with rfl | rfl | rfl
          · have HJ1 : Hid (idsAt (l.take (k + 1)) x y m 1 = l1 ++ [z.par.id]) := by unfold Hid; rw [HI1.out, if_pos rfl]
            have HJ0 : Hid (idsAt (l.take (k + 1)) x y m 0 = l0) := by unfold Hid; rw [HI0.out, if_neg (by decide)]
            clear HI1 HI0
            go_wp2_with (at_builtin; go_must (refine append_itemA kindN Tryz.underlying51 HT7.out.1 z.par.id 3 (cs := #[.int .i64 z.par.id]) rfl (by have := HN1.out; have := HKB.out; unfold maxLen; omega) (by have := HN1.out; have := HKB.out; omega) rfl _ _ rfl rfl 1 rfl ?_; intro v9 w9 hr9 hg9 ha9; have HT9 := Lib.hid (HT7.out.more hr9 hg9 ha9); have HQ9 := Lib.hid (HQ7.out.more HT7.out.1 hr9 hg9 (two_types (by decide) (by decide))); clear hr9 hg9 ha9))
            go_roundg (l.length - (k + 1))
            case measure => have := HGK.out; omega
            case rel => exact ⟨k + 1, by omega, rfl, by go_num, by rw [HJ1.out, HJ0.out]; exact HT9.out, HQ9.out⟩
          · have HJ1 : Hid (idsAt (l.take (k + 1)) x y m 1 = l1) := by unfold Hid; rw [HI1.out, if_neg (by decide)]
            have HJ0 : Hid (idsAt (l.take (k + 1)) x y m 0 = l0 ++ [z.par.id]) := by unfold Hid; rw [HI0.out, if_pos rfl]
            clear HI1 HI0
            go_wp2_with (at_builtin; go_must (refine append_itemA kindN Tryz.underlying51 HT7.out.2.1 z.par.id 3 (cs := #[.int .i64 z.par.id]) rfl (by have := HN0.out; have := HKB.out; unfold maxLen; omega) (by have := HN0.out; have := HKB.out; omega) rfl _ _ rfl rfl 1 rfl ?_; intro v9 w9 hr9 hg9 ha9; have HT9 := Lib.hid (HT7.out.swap.more hr9 hg9 ha9).swap; have HQ9 := Lib.hid (HQ7.out.more HT7.out.2.1 hr9 hg9 (two_types (by decide) (by decide))); clear hr9 hg9 ha9))
            go_roundg (l.length - (k + 1))
            case measure => have := HGK.out; omega
            case rel => exact ⟨k + 1, by omega, rfl, by go_num, by rw [HJ1.out, HJ0.out]; exact HT9.out, HQ9.out⟩
          · have HJ1 : Hid (idsAt (l.take (k + 1)) x y m 1 = l1) := by unfold Hid; rw [HI1.out, if_neg (by decide)]
            have HJ0 : Hid (idsAt (l.take (k + 1)) x y m 0 = l0) := by unfold Hid; rw [HI0.out, if_neg (by decide)]
            clear HI1 HI0
            go_wp2_with fail
            go_roundg (l.length - (k + 1))
            case measure => have := HGK.out; omega
            case rel => exact ⟨k + 1, by omega, rfl, by go_num, by rw [HJ1.out, HJ0.out]; exact HT7.out, HQ7.out⟩
        · obtain rfl : k = l.length := by omega
          rw [List.take_length] at HT
          obtain ⟨A1, c1, rfl, hi1, -⟩ := HT.1.items
          obtain ⟨A2, c2, rfl, hi2, -⟩ := HT.2.1.items
          have HI1 := Lib.hid hi1
          have HI2 := Lib.hid hi2
          have HB9 := Lib.hid HB.1
          clear HB HT hi1 hi2
          go_wp2
          refine bodyPost_ret (v := .tuple #[.slice A1 (idsAt l x y m 1).length c1, .slice A2 (idsAt l x y m 0).length c2, .int .i64 0]) ?_ rfl ⟨HB9.out, .inr ⟨HE0.out, A1, c1, A2, c2, rfl, HI1.out, HI2.out⟩⟩
          simp [results, Tryz.results27, go_sem]
end Go.Proofs.YtbcmnhbpomjinaaGreat

/- How many parcels have a spot within, and on their borders. -/
namespace Go.Proofs.YtbcmnhbpomjinaaGreat
open Go.RowKit

theorem idsAt_pars (l : List PV) (x y m v : Int) : idsAt l x y m v = ((l.map PV.par).filter fun p => spS p.ring x y m == v).map Par.id := by
  unfold idsAt
  rw [List.filter_map, List.map_map]; rfl
theorem idsAt_par {l l' : List PV} (h : l'.map PV.par = l.map PV.par) (x y m v : Int) : idsAt l' x y m v = idsAt l x y m v := by rw [idsAt_pars, idsAt_pars, h]
theorem cvE_par {o : List (Int × Int)} {l l' : List PV} (h : l'.map PV.par = l.map PV.par) (x y m : Int) : cvE o l' x y m = cvE o l x y m := by unfold cvE; rw [chkB_par o h]
/-- Cover of a plan of the call's own. -/
theorem owned_cover {w : World} {o : List (Int × Int)} {A1 : Option Addr} {c1 : Nat} {l l' : List PV} {Ap1 : Option Addr} {cp1 : Nat} (x y m : Int) (hl : l.length ≤ 1000000) (ho : o.length ≤ 8796093022208) (hown : ∀ x ∈ l, x.par.own.size ≤ maxLen) (hm : l'.map PV.par = l.map PV.par) (h : PlanAt w o A1 c1 l' Ap1 cp1) :
    Calls Tryz.prog 27 #[.agg #[.slice A1 o.length c1, .slice Ap1 l.length cp1], .int .i64 x, .int .i64 y, .int .i64 m] w fun e' w' => CoverAt w w' o l x y m e' := by
  have := Cover_any o A1 c1 l' Ap1 cp1 x y m (by rw [par_len hm]; exact hl) ho (own_par hm hown) w h
  rw [par_len hm] at this
  refine this.mono ?_
  rintro e' w' ⟨hb, h1⟩
  rw [cvE_par hm, idsAt_par hm, idsAt_par hm] at h1
  exact ⟨hb, h1⟩
theorem cvE_zero {o : List (Int × Int)} {l : List PV} {x y m : Int} (h : cvE o l x y m = 0) : CheckP o l ∧ SpOk x y m := by
  unfold cvE at h
  cases hc : chkB o l
  · rw [hc] at h; cases h
  · rw [hc] at h; exact ⟨chkB_iff.1 hc, spE_iff.1 h⟩
theorem count_ids (l : List PV) (x y m v : Int) : ((idsAt l x y m v).length : Int) = sumL (fun z : PV => if spS z.par.ring x y m = v then 1 else 0) l := by
  induction l with
  | nil => rfl
  | cons z l ih =>
    unfold idsAt at ih ⊢
    rw [List.length_map] at ih ⊢
    by_cases h : spS z.par.ring x y m = v
    · rw [List.filter_cons_of_pos (by simpa using h), List.length_cons, sumL, if_pos h]
      omega
    · rw [List.filter_cons_of_neg (by simpa using h), sumL, if_neg h]
      omega
/-- What follows: each spot has its parcels. -/
theorem tile_spot {o : List (Int × Int)} {l : List PV} {x y m : Int} (h : CheckP o l) (hs : SpOk x y m) :
    (side (mulR m o) (x, y) = 1 → ((idsAt l x y m 1).length = 1 ∧ (idsAt l x y m 0).length = 0) ∨ ((idsAt l x y m 1).length = 0 ∧ 2 ≤ (idsAt l x y m 0).length)) ∧
    (side (mulR m o) (x, y) = 0 → (idsAt l x y m 1).length = 0 ∧ 1 ≤ (idsAt l x y m 0).length) ∧
    (side (mulR m o) (x, y) = -1 → (idsAt l x y m 1).length = 0 ∧ (idsAt l x y m 0).length = 0) := by
  have hm : 1 ≤ m := hs.1
  have ht := (check_fit h).tile_parts (m := m) (by omega) (x, y)
  have e1 : nIn ((rings l).map (mulR m)) (x, y) = ((idsAt l x y m 1).length : Int) := by
    rw [count_ids]
    unfold nIn rings
    rw [sumL_map, sumL_map]
    exact sumL_ext fun z hz => by rw [spS_side (norm_sound (check_ring h hz)) hm]
  have e0 : nOn ((rings l).map (mulR m)) (x, y) = ((idsAt l x y m 0).length : Int) := by
    rw [count_ids]
    unfold nOn rings
    rw [sumL_map, sumL_map]
    exact sumL_ext fun z hz => by rw [spS_side (norm_sound (check_ring h hz)) hm]
  rw [e1, e0] at ht
  obtain ⟨h1, h2, h3⟩ := ht
  refine ⟨fun hh => ?_, fun hh => ?_, fun hh => ?_⟩
  · have := h1 hh; omega
  · have := h2 hh; omega
  · have := h3 hh; omega
theorem side_vals (r : List (Int × Int)) (z : Int × Int) : side r z = 1 ∨ side r z = 0 ∨ side r z = -1 := by
  unfold side; split
  · exact .inr (.inl rfl)
  · split
    · exact .inl rfl
    · exact .inr (.inr rfl)
end Go.Proofs.YtbcmnhbpomjinaaGreat
