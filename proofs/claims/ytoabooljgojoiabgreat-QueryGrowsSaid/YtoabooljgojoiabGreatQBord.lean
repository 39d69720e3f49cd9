/- The program's New of an index. -/
import Derived.Test.YtoabooljgojoiabGreatPlanB
import Derived.Test.YtoabooljgojoiabGreatMapE
import Derived.Test.YtoabooljgojoiabGreatCutM
import Derived.Test.YtoabooljgojoiabGreatQOnce
namespace Go.Proofs.YtoabooljgojoiabGreat
open Go.RowKit
section
variable {α β : Type} {T : TypeId} {ek : α → Value} {ev : β → Value} {Ok : α → Prop} {W W' : World} {b : Nat} {l : List (α × β)} {t e : TypeId} {ops : Array Oper} {o : Oper} {a : Act} {KK : Act → World → Prop} {Q : Exit → Act → World → Prop} {E : Prop}
theorem step_store (hgd : o.guard = none) (m x v : Operand) (t : TypeId) (hop : o.op = Op.mapUpdate t m x v) (e : TypeId) (K : KeyK T ek Ok) (ht : Tryz.prog.underlying t = some (.map T e)) (b : Nat)
  (hm : a.eval m = .map (some b)) (h : MapIs W b ek ev Ok l) {k : α} (hk : Ok k) (hn : k ∉ l.map Prod.fst) {y : β} (hx : a.eval x = ek k) (hv : a.eval v = ev y)
  (hK : ∀ W', MapIs W' b ek ev Ok (l ++ [(k, y)]) → W.grownBy W' (some b) → W'.heap.size = W.heap.size → KK (a.put o.dst undef) W') :
  if Region.wanted o (yielded ops a.tmps) = true then Oper.wp Tryz.prog o a W KK Q else E := by
 rw [if_pos (wanted_of hgd)]
 obtain ⟨W', hrun, r1, r2, r3⟩ := h.store K ht hk hn y
 unfold Oper.wp
 simp [execOp, hop, hm, hx, hv, hrun, Result.andThen]
 exact hK W' r1 r2 r3
end
set_option maxRecDepth 100000 in
set_option maxHeartbeats 2000000 in
theorem edgesQ_any (ps : List (Int × Int)) (A : Option Addr) (cap : Nat) (hn : ps.length ≤ 1000000) (w : World) (hr : Pts w w.heap.size A ps) :
  Calls Tryz.prog 21 #[.slice A ps.length cap] w fun e w' => ∃ v, e = .returned v ∧ RowI w 83 4 encG v (edg ps) w' := by
 have HR := Lib.hid hr
 have HR0 : RowI w 83 4 encG (.slice none 0 0) [] w := RowI.nil (Below.refl _ _)
 clear hr
 go_enter Tryz.func21, Tryz.ntmps21
 go_wp2_with fail
 go_loopg [3, 8] ps.length (fun g v i wr => ∃ k : Nat, k ≤ ps.length ∧ g = ps.length - k ∧ i = .int .i64 k ∧ RowI w 83 4 encG v ((edg ps).take k) wr)
 case atStart => exact ⟨0, Nat.zero_le _, rfl, rfl, by rw [List.take_zero]; exact HR0⟩
 case round =>
  clear HR0
  obtain ⟨k, hk, hgk, rfl, HV⟩ := hrel
  have HGK := Lib.hid hgk
  clear hgk
  by_cases hlt : k < ps.length
  ·obtain ⟨jk, hjk, ek1, ek2, ek3⟩ := next_place hlt
   obtain ⟨ad, hA, F0⟩ := HR.out.fp hlt (Nat.mod_eq_of_lt hlt)
   obtain ⟨ad', e', F1⟩ := HR.out.fp hjk ek1
   obtain rfl := Option.some.inj (hA.symm.trans e')
   obtain rfl := hA
   have HT := Lib.hid (edg_take hlt)
   have hlen : ((edg ps).take k).length ≤ 1000000 := by have := List.length_take_le k (edg ps); omega
   have HLN := Lib.hid hlen
   have b0 : (0 : Int) ≤ (k : Int) := by omega
   have b1 : (k : Int) < (ps.length : Int) := by omega
   have b2 : (0 : Int) < (ps.length : Int) := by omega
   have b4 : (0 : Int) ≤ (jk : Int) := by omega
   have b5 : (jk : Int) < (ps.length : Int) := by omega
   have b6 : (ps.length : Int) ≤ 1000000 := by omega
   have hh : Hold w [] wr := ⟨HV.1, fun _ h => (by cases h), List.Pairwise.nil⟩
   obtain ⟨d0, d1⟩ := hh.fp F0
   have HF1 := Lib.hid F1
   have HH := Lib.hid hh
   clear F0 F1 e' ek1 hlen hh
   generalize nx ps k = a at *
   generalize nx ps (k + 1) = b at *
   generalize (edg ps).take k = es at *
   go_upto_region 5 with (fail)
   clear d0 d1
   have HQ := HH.out.new #[.int .i64 a.1, .int .i64 a.2] 28
   have HV1 := HV.alloc (Obj.cells #[.int .i64 a.1, .int .i64 a.2] 28 (0, 0))
   have HN1 := HV.row_ne (Nat.le_refl _)
   generalize (World.alloc _ _) = W1 at HQ HV1 ⊢
   generalize wr.heap.size = gb at HQ HN1 ⊢
   have HN := Lib.hid HN1
   clear HN1 HV HH
   have z1 : ((ps.length : Int) == 0) = false := by rw [beq_eq_false_iff_ne]; omega
   have z2 : ¬ (ps.length : Int) = 0 := by omega
   have z7 : ¬ ps.length = 0 := by omega
   have z8 : ¬ ps = [] := fun e => z7 (by rw [e]; rfl)
   have z3 := wrap_in (n := (k : Int) + 1) (by omega) (by omega)
   have z4 := wrap_in (n := (k : Int)) (by omega) (by omega)
   have z5 := wrap_in (n := (jk : Int)) (by omega) (by omega)
   have HK2 := Lib.hid (fun W (h : Hold w [(gb, #[.int .i64 a.1, .int .i64 a.2], 28)] W) => show W.cell? ⟨gb, 0, none⟩ = some (.int .i64 a.1) ∧ W.cell? ⟨gb, 1, none⟩ = some (.int .i64 a.2) ∧ W.cell? (ad.add (jk * 2)) = some (.int .i64 b.1) ∧ W.cell? ⟨(ad.add (jk * 2)).block, (ad.add (jk * 2)).off + 1, none⟩ = some (.int .i64 b.2) from
    ⟨(h.pt (.head _)).1, (h.pt (.head _)).2, (h.fp HF1.out).1, (h.fp HF1.out).2⟩)
   go_region_held3 (fun W => W.cell? ⟨gb, 0, none⟩ = some (.int .i64 a.1) ∧ W.cell? ⟨gb, 1, none⟩ = some (.int .i64 a.2) ∧ W.cell? (ad.add (jk * 2)) = some (.int .i64 b.1) ∧ W.cell? ⟨(ad.add (jk * 2)).block, (ad.add (jk * 2)).off + 1, none⟩ = some (.int .i64 b.2)) (first | exact HK2.out _ HQ.drew | exact HK2.out _ (HQ.alloc _).drew | exact HK2.out _ (HQ.drew.alloc _) | exact HK2.out _ HQ9)
    ((refine step_append_itemsG kindG Tryz.underlying80 (HV1.alloc _).drew [(a, b)] (some ⟨W1.heap.size, 0, none⟩) 1 (items_one (heap_alloc_new W1 _) rfl (by simp)) (fun e => by cases e) (by have := HLN.out; unfold maxLen; simp; omega) (by have := HLN.out; simp; omega) rfl _ _ rfl rfl rfl ?_; rintro v9 w9 HR9 hg9; have HQ9 := Hold.grow (HQ.alloc _).drew HR9.1 hg9 (fun e he => by rcases List.mem_cons.1 he with rfl | he; exact HN.out; cases he); clear hg9))
   go_wp2_with fail
   go_roundg (ps.length - (k + 1))
   case measure => have := HGK.out; omega
   case rel => exact ⟨k + 1, by omega, rfl, by go_num, by rw [HT.out]; exact HR9⟩
  ·obtain rfl : k = ps.length := by omega
   have e : (edg ps).take ps.length = edg ps := List.take_of_length_le (by rw [edg_len]; exact Nat.le_refl _)
   rw [e] at HV
   have HK := Lib.hid HV
   clear HV e
   go_wp2
   go_ret
   exact ⟨_, rfl, HK.out⟩

theorem keyJ : KeyK 3 iv In64 where
 K := Go.Maps.int_keyed Tryz.underlying3
 lit a ha := by
  have w1 := wf64 ha
  refine ⟨_, by
   unfold keyOf
   rw [Tryz.underlying3]
   simp [mapKey, iv, w1, Tryz.underlying3]
   rfl⟩
 inj a b h := by
  unfold iv at h
  simpa using h
def rvV (x : PV) : Value := .slice x.A x.par.ring.length x.cap
def ringL (l : List PV) : List (Int × PV) := l.map fun x => (x.par.id, x)
theorem ownL_par {l l' : List PV} (h : l'.map PV.par = l.map PV.par) : ownL l' = ownL l := by
 have key : ∀ m : List PV, ownL m = (m.map PV.par).flatMap fun x => (edg x.ring).map fun e => (e, x.id) := fun m => by
  unfold ownL
  rw [List.flatMap_map]
 rw [key, key, h]
theorem map_row {α β : Type} {W : World} {m : Nat} {ek : α → Value} {ev : β → Value} {Ok : α → Prop} {L : List (α × β)} (h : MapIs W m ek ev Ok L) {B e sz n : Nat} {v : Value} {xs : List Value} (hr : W.ownsRow B e sz v n xs) : v.ownBlock ≠ some m := fun e' => by
 obtain ⟨es, c, hb, -⟩ := h
 rcases hr.2 with ⟨rfl, _⟩ | ⟨g', cap, cur, rfl, _, hg, _⟩
 ·cases e'
 ·obtain rfl : g' = m := Option.some.inj e'
  rw [hb] at hg
  cases hg
theorem map_box {α β : Type} {w W : World} {m : Nat} {ek : α → Value} {ev : β → Value} {Ok : α → Prop} {L : List (α × β)} (h : MapIs W m ek ev Ok L) {K : List (Nat × Array Value × TypeId)} (hq : Hold w K W) : ∀ e ∈ K, some m ≠ some e.1 := fun e he e' => by
 obtain ⟨es, c, hb, -⟩ := h
 obtain rfl : m = e.1 := Option.some.inj e'
 rw [(hq.2.1 e he).1] at hb
 cases hb
theorem OwnRs.map {w W W' : World} {l : List PV} {α β : Type} {m : Nat} {ek : α → Value} {ev : β → Value} {Ok : α → Prop} {L : List (α × β)} (h : OwnRs w l W) (hm : MapIs W m ek ev Ok L) (hg : W.grownBy W' (some m)) : OwnRs w l W' := fun x hx => (h x hx).kept hg (.inr (map_row hm (h x hx)))
theorem grownBy_drew (W : World) (row : Option Nat) : W.grownBy W.drew row := ⟨rfl, rfl, rfl, Nat.le_refl _, fun _ _ _ => rfl⟩
structure IdxAt (w W : World) (b m1 m2 : Nat) (ps : List Par) (l' : List PV) : Prop where
 below : Below w.heap.size w W
 par : l'.map PV.par = ps
 rows : OwnRs w l' W
 rings : MapIs W m1 iv rvV In64 (ringL l')
 left : MapIs W m2 gv iv OkE (ownL l')
 own : w.heap.size ≤ b ∧ w.heap.size ≤ m1 ∧ w.heap.size ≤ m2
set_option maxRecDepth 100000 in
set_option maxHeartbeats 8000000 in
theorem New_any (o : List (Int × Int)) (Ao : Option Addr) (co : Nat) (l : List PV) (Ap : Option Addr) (cp : Nat) (hl : l.length ≤ 1000000) (ho : o.length ≤ 8796093022208) (hown : ∀ x ∈ l, x.par.own.size ≤ maxLen) (w : World) (h : PlanAt w o Ao co l Ap cp) :
  Calls Tryz.prog 9 #[.agg #[.slice Ao o.length co, .slice Ap l.length cp]] w fun e w' => (chkB o l = false ∧ e = .returned (.tuple #[.pointer none, .int .i64 2]) ∧ Below w.heap.size w w') ∨
   (chkB o l = true ∧ ∃ b, e = .returned (.tuple #[.pointer (some ⟨b, 0, none⟩), .int .i64 0]) ∧ ∃ m1 m2, (∃ l', IdxAt w w' b m1 m2 (l.map PV.par) l') ∧ w'.heap[b]? = some (.cells #[.map (some m1), .map (some m2), .int .u32 0, .int .i32 0, .int .u32 0, .map none, .int .i64 0] 78 (0, 0))) := by
 have HCK := Lib.hid (fun W (hb : Below w.heap.size w W) => PCheck_any o Ao co l Ap cp hl ho h.caps.1 h.caps.2 hown W (h.prs.on hb) (h.out.on hb))
 have HR := Lib.hid (fun W (hb : Below w.heap.size w W) => h.prs.on hb)
 have HQ := (Hold.refl w).new #[.slice Ao o.length co, .slice Ap l.length cp] 26
 have hmm := @run_makeMap Tryz.prog
 clear h
 go_enter Tryz.func9, Tryz.ntmps9
 go_upto_region 1 with (fail)
 generalize (World.alloc _ _) = W1 at HQ ⊢
 obtain ⟨g1, hg1⟩ : ∃ g, w.heap.size = g := ⟨_, rfl⟩
 have HG1 := Lib.hid hg1
 rw [hg1] at HQ ⊢
 clear hg1
 obtain ⟨c0, c1⟩ := HQ.pt (.head _)
 have HQ1 := Lib.hid HQ
 clear HQ
 go_wp2_with fail
 go_at_call 19
 refine (HCK.out _ HQ1.out.1).mono ?_
 rintro e' W2 ⟨rfl, hB⟩
 have HQ2 := Lib.hid (HQ1.out.on hB)
 clear hB c0 c1 HCK
 cases hc : checkB o Ao co l
 ·rw [ckE_false hc]
  have HC : Hid (chkB o l = false) := (check_eq o Ao co l).symm.trans hc
  clear hc
  go_wp2
  refine bodyPost_ret (v := .tuple #[.pointer none, .int .i64 2]) ?_ rfl (.inl ⟨HC.out, rfl, HQ2.out.1⟩)
  simp [results, Tryz.results9, go_sem]
 ·rw [ckE_true hc]
  have HC : Hid (chkB o l = true) := (check_eq o Ao co l).symm.trans hc
  have HCP : Hid (CheckP o l) := chkB_iff.1 HC.out
  clear hc
  have HPQ : PlanQ o (l.map PV.par) := chkB_plan.1 HC.out
  have HND : Hid ((edgs (rings l)).Nodup) := by
   have h := HPQ.fit.once
   unfold ringsQ at h
   rw [List.map_map] at h
   exact h
  have HGD : Hid (∀ x ∈ l, (∀ p ∈ x.par.ring, Gd p) ∧ x.par.ring.length ≤ 128 ∧ In64 x.par.id) := fun x hx => by
   have h1 := normP_small (HPQ.each _ (List.mem_map_of_mem hx))
   have h2 := (HPQ.fine.2.1 _ (List.mem_map_of_mem hx)).1
   refine ⟨h1.2.2, h1.2.1, ?_⟩
   unfold idB at h2
   simp only [Bool.and_eq_true, decide_eq_true_eq] at h2
   unfold In64
   omega
  have HID : Hid ((l.map PV.par).Pairwise fun a b => a.id < b.id) := HPQ.fine.1
  have HL64 : Hid (l.length ≤ 64) := by have := HPQ.fine.2.2.2.1; rwa [List.length_map] at this
  clear HPQ
  obtain ⟨c0, c1⟩ := HQ2.out.pt (.head _)
  have hq4 := ((HQ2.out.alloc (.map #[] 0)).alloc (.map #[] 0)).new' #[.map (some W2.heap.size), .map (some (W2.heap.size + 1)), .int .u32 0, .int .i32 0, .int .u32 0, .map none, .int .i64 0] 78 (n := W2.heap.size + 2) (by simp)
  have hm1 : MapIs (((W2.alloc (.map #[] 0)).alloc (.map #[] 0)).alloc (Obj.cells #[.map (some W2.heap.size), .map (some (W2.heap.size + 1)), .int .u32 0, .int .i32 0, .int .u32 0, .map none, .int .i64 0] 78 (0, 0))) W2.heap.size iv rvV In64 (ringL []) := ((MapIs.made W2).alloc _).alloc _
  have hm2 : MapIs (((W2.alloc (.map #[] 0)).alloc (.map #[] 0)).alloc (Obj.cells #[.map (some W2.heap.size), .map (some (W2.heap.size + 1)), .int .u32 0, .int .i32 0, .int .u32 0, .map none, .int .i64 0] 78 (0, 0))) (W2.heap.size + 1) gv iv OkE (ownL (l.take 0)) := by
   have h := (MapIs.made (ek := gv) (ev := iv) (Ok := OkE) (W2.alloc (.map #[] 0))).alloc (Obj.cells #[.map (some W2.heap.size), .map (some (W2.heap.size + 1)), .int .u32 0, .int .i32 0, .int .u32 0, .map none, .int .i64 0] 78 (0, 0))
   rw [World.size_alloc] at h
   exact h
  have HB2 : Hid (w.heap.size ≤ W2.heap.size) := HQ2.out.1.size
  go_upto_region 5 with (fail)
  clear c0 c1 hmm
  generalize (World.alloc _ _) = W4 at hq4 hm1 hm2 ⊢
  have hne12 : W2.heap.size ≠ W2.heap.size + 1 := by omega
  have hown2 : w.heap.size ≤ W2.heap.size + 2 ∧ w.heap.size ≤ W2.heap.size ∧ w.heap.size ≤ W2.heap.size + 1 := by have := HB2.out; omega
  have HNB : Hid (W2.heap.size + 2 ≠ W2.heap.size ∧ W2.heap.size + 2 ≠ W2.heap.size + 1 ∧ g1 ≠ W2.heap.size ∧ g1 ≠ W2.heap.size + 1) := by
   have := HQ2.out.lt (.head _)
   unfold Hid
   omega
  generalize W2.heap.size + 2 = b at *
  generalize W2.heap.size + 1 = m2 at *
  generalize W2.heap.size = m1 at *
  have HN12 := Lib.hid hne12
  have HOWN := Lib.hid hown2
  have HQ4 := Lib.hid hq4
  have HM1 := Lib.hid hm1
  have HM2 := Lib.hid hm2
  obtain ⟨c0, c1⟩ := hq4.pt (.tail _ (.head _))
  clear hq4 hm1 hm2 hne12 hown2 HQ1 HQ2 HB2
  go_wp2_with fail
  clear c0 c1
  go_loopg [22] l.length (fun g i wr => ∃ (k : Nat) (l' : List PV), k ≤ l.length ∧ g = l.length - k ∧ i = .int .i64 k ∧ Hid (l'.map PV.par = (l.take k).map PV.par) ∧ MapIs wr m1 iv rvV In64 (ringL l') ∧ MapIs wr m2 gv iv OkE (ownL (l.take k)) ∧ OwnRs w l' wr ∧ Hold w [(b, #[.map (some m1), .map (some m2), .int .u32 0, .int .i32 0, .int .u32 0, .map none, .int .i64 0], 78), (g1, #[.slice Ao o.length co, .slice Ap l.length cp], 26)] wr)
  case atStart => exact ⟨0, [], Nat.zero_le _, rfl, rfl, rfl, HM1.out, HM2.out, (fun x hx => by cases hx), HQ4.out⟩
  case round =>
   clear HM1 HM2 HQ4
   obtain ⟨k, l', hk, hgk, rfl, HMP, hm1, hm2, hor, hq⟩ := hrel
   have HGK := Lib.hid hgk
   clear hgk
   by_cases hlt : k < l.length
   ·obtain ⟨ad, hA, -, d0, d1, d2⟩ := (HR.out _ hq.1).at hlt
    have hx := HGD.out _ (List.getElem_mem hlt)
    have HXP : Hid (∀ W, Below w.heap.size w W → Pts W W.heap.size l[k].A l[k].par.ring ∧ NilOk l[k].A l[k].cap) := fun W hb => by
     have h := (HR.out W hb).2 _ (List.getElem_mem hlt)
     exact ⟨h.1, h.2.1⟩
    have HKT := Lib.hid (ownL_take hlt)
    have HKS := Lib.hid (ownL_keys (l.take k))
    have HPF := Lib.hid (fun j => edgs_prefix hlt j)
    have HGE := Lib.hid (fun e he => edg_gd (e := e) hx.1 he)
    have HEL := Lib.hid (edg_len l[k].par.ring)
    have HLE : Hid (l[k].par.ring.length ≤ 128) := hx.2.1
    have HI64 : Hid (In64 l[k].par.id) := hx.2.2
    have HNEW : Hid (l[k].par.id ∉ (ringL l').map Prod.fst) := fun hm => by
     have e : (ringL l').map Prod.fst = ((l.take k).map PV.par).map Par.id := by
      rw [← HMP.out]
      unfold ringL
      rw [List.map_map, List.map_map]
      rfl
     rw [e, List.map_map] at hm
     obtain ⟨y, hy, hyi⟩ := List.mem_map.1 hm
     obtain ⟨i, hi, rfl⟩ := List.getElem_of_mem hy
     rw [List.length_take] at hi
     have h1 := List.pairwise_iff_getElem.1 HID.out i k (by rw [List.length_map]; omega) (by rw [List.length_map]; exact hlt) (by omega)
     rw [List.getElem_map, List.getElem_map] at h1
     rw [List.getElem_take] at hyi
     have : l[i].par.id = l[k].par.id := hyi
     omega
    have HMT : Hid ((l.take (k + 1)).map PV.par = (l.take k).map PV.par ++ [l[k].par]) := by
     unfold Hid
     rw [List.take_succ_eq_append_getElem hlt, List.map_append]; rfl
    have b0 : (0 : Int) ≤ (k : Int) := by omega
    have b1 : (k : Int) < (l.length : Int) := by omega
    have b2 : (l.length : Int) ≤ 64 := by have := HL64.out; omega
    subst hA
    clear hx
    generalize edgs (rings (l.take k)) = pre at *
    generalize ownL (l.take k) = om at *
    generalize l[k].par = x at *
    generalize l[k].A = Ak at *
    generalize l[k].cap = ck at *
    go_upto_region 8 with (fail)
    have hb1 := (Below.refl wr.heap.size wr).alloc (Nat.le_refl _) (.cells #[.int .i64 x.id, .slice Ak x.ring.length ck, .string x.own] 42 (0, 0))
    have hq5 := hq.new #[.int .i64 x.id, .slice Ak x.ring.length ck, .string x.own] 42
    have hm15 := hm1.on hb1 hm1.lt
    have hm25 := hm2.on hb1 hm2.lt
    have hor5 := hor.on hb1
    clear hq hm1 hm2 hor hb1 d0 d1 d2
    generalize (World.alloc _ _) = W5 at hq5 hm15 hm25 hor5 ⊢
    generalize wr.heap.size = gx at hq5 ⊢
    have HQ5 := Lib.hid hq5.drew
    have HM15 := Lib.hid hm15.drew
    have HM25 := Lib.hid hm25.drew
    have HOR5 : Hid (OwnRs w l' W5.drew) := hor5.on ⟨rfl, rfl, rfl, Nat.le_refl _, fun _ _ => rfl⟩
    clear hq5 hm15 hm25 hor5
    refine wp_region_held_drew (S := fun W => (W.cell? ⟨b, 0, none⟩ = some (.map (some m1))) ∧ W.cell? ⟨gx, 0, none⟩ = some (.int .i64 x.id) ∧ W.cell? ⟨gx, 1, none⟩ = some (.slice Ak x.ring.length ck)) (by kernel_rfl) ?_ (fun hHeld => ?_)
    ·(try dsimp only)
     exact ⟨HQ5.out.cell (.tail _ (.head _)) 0, HQ5.out.cell (.head _) 0, HQ5.out.cell (.head _) 1⟩
    refine tZ 0 ?_; refine tZ 1 ?_; refine tZ 2 ?_; refine tZ 3 ?_; refine tZ 4 ?_; refine tZ 5 ?_; refine tZ 6 ?_; refine tZ 7 ?_
    refine wpAnyH_ready (rs := [8]) (by decide +kernel) (by simp) ?_
    refine AllReadyH.cons rfl (fun K hK => ?_) AllReadyH.nil
    (try simp only [jA, jB, jC])
    go_simp
    (go_at_call 20; refine (clone_any x.ring Ak ck (by have := HLE.out; omega) (HXP.out _ HQ5.out.1).2 _ (HXP.out _ HQ5.out.1).1).mono ?_; rintro e' W6 ⟨v, rfl, hv⟩; have hq6 := HQ5.out.on hv.1; have hm16 := HM15.out.on hv.1 HM15.out.lt; have hm26 := HM25.out.on hv.1 HM25.out.lt; have hor6 := HOR5.out.on hv.1; have hr6 := hv.base HQ5.out.1; obtain ⟨A5, c5, rfl, -, -⟩ := hr6.nilOk)
    refine hK.out _ _ ?_ (fun hHeld => ?_)
    focus ((try dsimp only); exact ⟨hq6.cell (.tail _ (.head _)) 0, hq6.cell (.head _) 0, hq6.cell (.head _) 1⟩; done)
    clear hK K
    (try simp only [Act.put, jA, jB, jC, jD, jE, jF])
    refine wpAnyH_ready (rs := [9]) (by decide +kernel) (by simp) ?_
    refine AllReadyH.cons rfl (fun K hK => ?_) AllReadyH.nil
    refine step_store (y := (⟨x, A5, c5⟩ : PV)) (by rfl) _ _ _ 59 rfl 23 keyJ Tryz.underlying59 m1 (by rfl) hm16 HI64.out HNEW.out (by rfl) (by rfl) ?_; intro W7 hm17 hg7 hs7; have hq7 := Hold.grow hq6 (hq6.1.grown hg7 hq6.1.size (fun k e => by have := HOWN.out; have := Option.some.inj e; omega)) hg7 (map_box hm16 hq6); have hm27 := hm26.kept hg7 (fun e => HN12.out (Option.some.inj e).symm); have hor7 := OwnRs.map hor6 hm16 hg7; have hr7 := hr6.2.kept hg7 (.inr (map_row hm16 hr6.2))
    refine hK.out _ _ ?_ (fun hHeld => ?_)
    focus ((try dsimp only); exact ⟨hq7.cell (.tail _ (.head _)) 0, hq7.cell (.head _) 0, hq7.cell (.head _) 1⟩; done)
    clear hK K
    (try simp only [Act.put, jA, jB, jC])
    refine wpAnyH_done (by decide +kernel) ?_ _
    have HQ7 := Lib.hid hq7
    have HM17 : Hid (MapIs W7 m1 iv rvV In64 (ringL (l' ++ [⟨x, A5, c5⟩]))) := by
     unfold Hid ringL at *
     rw [List.map_append]
     exact hm17
    have HM27 := Lib.hid hm27
    have HOR7 : Hid (OwnRs w (l' ++ [⟨x, A5, c5⟩]) W7) := fun y hy => by
     rcases List.mem_append.1 hy with hy | hy
     ·exact hor7 y hy
     ·obtain rfl := List.mem_singleton.1 hy
      exact hr7
    have HMP7 : Hid ((l' ++ [(⟨x, A5, c5⟩ : PV)]).map PV.par = (l.take (k + 1)).map PV.par) := by
     unfold Hid
     rw [HMT.out, List.map_append, HMP.out]; rfl
    obtain ⟨c0, c1⟩ : W7.cell? ⟨gx, 0, none⟩ = some (.int .i64 x.id) ∧ W7.cell? ⟨gx, 1, none⟩ = some (.slice Ak x.ring.length ck) := ⟨hq7.cell (.head _) 0, hq7.cell (.head _) 1⟩
    clear hq7 hm17 hm27 hor7 hr7 hq6 hm16 hm26 hor6 hr6 hg7 hs7 hv HQ5 HM15 HM25 HOR5 HNEW HMP hHeld
    go_wp2_with fail
    go_at_call 21
    refine (edgesQ_any x.ring Ak ck (by have := HLE.out; omega) _ (HXP.out _ HQ7.out.1).1).mono ?_
    rintro e w1 ⟨v, rfl, HV1⟩
    obtain ⟨A1, c1', hv1, HI, HNO⟩ := HV1.items
    have hm28 := HM27.out.on HV1.1 HM27.out.lt
    have hq8 := HQ7.out.on HV1.1
    have hm18 := HM17.out.on HV1.1 HM17.out.lt
    have hor8 := HOR7.out.on HV1.1
    have hne1 : ∀ ad, A1 = some ad → some m2 ≠ some ad.block := fun ad' e h => map_row hm28 HV1.2 (by rw [hv1, e]; exact congrArg some (Option.some.inj h).symm)
    have HNE := Lib.hid hne1
    subst hv1
    have HI0 := Lib.hid HI
    have HM28 := Lib.hid hm28
    have HQ8 := Lib.hid hq8
    have HM18 := Lib.hid hm18
    have HOR8 := Lib.hid hor8
    clear HV1 c0 c1 HNO hne1 HI hm28 hq8 hm18 hor8 HQ7 HM17 HM27 HOR7
    generalize hes : edg x.ring = es at *
    have HESL : Hid (es.length ≤ 128) := by unfold Hid; rw [HEL.out]; exact HLE.out
    clear hes
    go_wp2_with fail
    go_loopg [39] es.length (fun g i wr2 => ∃ j : Nat, j ≤ es.length ∧ g = es.length - j ∧ i = .int .i64 j ∧ MapIs wr2 m2 gv iv OkE (om ++ (es.take j).map fun e => (e, x.id)) ∧ w1.grownBy wr2 (some m2))
    case atStart => exact ⟨0, Nat.zero_le _, rfl, rfl, by rw [List.take_zero, List.map_nil, List.append_nil]; exact HM28.out, World.grownBy.refl _ _⟩
    case round =>
     obtain ⟨j, hj, hgj, rfl, HM, hgr⟩ := hrel
     have HGJ := Lib.hid hgj
     clear hgj
     have hqr := Hold.grow HQ8.out (HQ8.out.1.grown hgr HQ8.out.1.size (fun k e => by have := HOWN.out; have := Option.some.inj e; omega)) hgr (map_box HM28.out HQ8.out)
     by_cases hjt : j < es.length
     ·obtain ⟨ad3, rfl, hadb, hc0, hc⟩ := Items.at kindG.len (HI0.out.but hgr HNE.out) hjt
      have d0 := hc0 _ (by decide) rfl
      have d1 := hc 1 _ (by decide) (by decide) rfl
      have d2 := hc 2 _ (by decide) (by decide) rfl
      have d3 := hc 3 _ (by decide) (by decide) rfl
      have b3 : (0 : Int) ≤ (j : Int) := by omega
      have b4 : (j : Int) < (es.length : Int) := by omega
      have b5 : (es.length : Int) ≤ 128 := by have := HESL.out; omega
      have HOK : Hid (OkE es[j]) := okE_of (HGE.out _ (List.getElem_mem hjt)).1 (HGE.out _ (List.getElem_mem hjt)).2
      have HTK : Hid (es.take (j + 1) = es.take j ++ [es[j]]) := List.take_succ_eq_append_getElem hjt
      have HMK : Hid (es[j] ∉ (om ++ (es.take j).map fun e => (e, x.id)).map Prod.fst) := by
       have hkeys : (om ++ (es.take j).map fun e => (e, x.id)).map Prod.fst = pre ++ es.take j := by
        rw [List.map_append, HKS.out, List.map_map]
        congr 1
        exact List.map_id _
       unfold Hid
       rw [hkeys]
       intro hm
       have h1 := HPF.out (j + 1)
       rw [HTK.out] at h1
       have h := HND.out.sublist h1
       rw [← List.append_assoc, List.nodup_append] at h
       exact h.2.2 _ hm _ (by simp) rfl
      clear hc0 hc
      generalize es[j] = y at *
      go_upto_region 12 with (fail)
      have hq9 := hqr.new #[.int .i64 y.1.1, .int .i64 y.1.2, .int .i64 y.2.1, .int .i64 y.2.2] 83
      have hm9 := HM.alloc (.cells #[.int .i64 y.1.1, .int .i64 y.1.2, .int .i64 y.2.1, .int .i64 y.2.2] 83 (0, 0))
      have hg9 := hgr.trans (World.grownBy_alloc wr (.cells #[.int .i64 y.1.1, .int .i64 y.1.2, .int .i64 y.2.1, .int .i64 y.2.2] 83 (0, 0)) (some m2))
      clear d0 d1 d2 d3 HM hgr hqr hadb
      generalize (World.alloc _ _) = W9 at hq9 hm9 hg9 ⊢
      generalize wr.heap.size = ge at hq9 ⊢
      have HQ9 := Lib.hid hq9.drew
      have HM9 := Lib.hid hm9.drew
      have HG9 := Lib.hid (hg9.trans (show W9.grownBy W9.drew (some m2) from grownBy_drew W9 _))
      clear hq9 hm9 hg9
      refine wp_region_held_drew (S := fun W => W.cell? ⟨b, 1, none⟩ = some (.map (some m2)) ∧ W.cell? ⟨gx, 0, none⟩ = some (.int .i64 x.id) ∧ W.cell? ⟨ge, 0, none⟩ = some (.int .i64 y.1.1) ∧ W.cell? ⟨ge, 1, none⟩ = some (.int .i64 y.1.2) ∧ W.cell? ⟨ge, 2, none⟩ = some (.int .i64 y.2.1) ∧ W.cell? ⟨ge, 3, none⟩ = some (.int .i64 y.2.2)) (by kernel_rfl) ?_ (fun hHeld => ?_)
      ·(try dsimp only)
       exact ⟨HQ9.out.cell (.tail _ (.tail _ (.head _))) 1, HQ9.out.cell (.tail _ (.head _)) 0, HQ9.out.q4 (.head _)⟩
      refine tZ 0 ?_; refine tZ 1 ?_; refine tZ 2 ?_; refine tZ 3 ?_; refine tZ 4 ?_; refine tZ 5 ?_; refine tZ 6 ?_
      refine wpAnyH_ready (rs := [7]) (by decide +kernel) (by simp) ?_
      refine AllReadyH.cons rfl (fun K hK => ?_) AllReadyH.nil
      refine step_store (k := y) (y := x.id) (by rfl) _ _ _ 60 rfl 3 keyE Tryz.underlying60 m2 (by rfl) HM9.out HOK.out HMK.out (by rfl) (by rfl) ?_; intro W10 hm10 hg10 hs10; have hq10 := Hold.grow HQ9.out (HQ9.out.1.grown hg10 HQ9.out.1.size (fun k e => by have := HOWN.out; have := Option.some.inj e; omega)) hg10 (map_box HM9.out HQ9.out)
      refine hK.out _ _ ?_ (fun hHeld => ?_)
      focus ((try dsimp only); exact ⟨hq10.cell (.tail _ (.tail _ (.head _))) 1, hq10.cell (.tail _ (.head _)) 0, hq10.q4 (.head _)⟩; done)
      clear hK K
      (try simp only [Act.put, jA, jB, jC])
      refine wpAnyH_done (by decide +kernel) ?_ _
      have HMA := Lib.hid hm10
      have HGA := Lib.hid (HG9.out.trans hg10)
      clear hm10 hg10 hs10 hq10 hHeld
      go_wp2_with fail
      go_roundg (es.length - (j + 1))
      case measure => have := HGJ.out; omega
      case rel => exact ⟨j + 1, by omega, rfl, by go_num, by rw [HTK.out, List.map_append, ← List.append_assoc]; exact HMA.out, HGA.out⟩
     ·obtain rfl : j = es.length := by omega
      rw [List.take_length] at HM
      have HMA := Lib.hid HM
      have HGA := Lib.hid hgr
      have HQA := Lib.hid hqr.tail
      have HM1A := Lib.hid (HM18.out.kept hgr (fun e => HN12.out (Option.some.inj e)))
      have HORA := Lib.hid (OwnRs.map HOR8.out HM28.out hgr)
      clear HM hgr hqr
      go_wp2_with fail
      go_roundg (l.length - (k + 1))
      case measure => have := HGK.out; omega
      case rel => exact ⟨k + 1, _, by omega, rfl, by go_num, HMP7, HM1A.out, by rw [HKT.out]; exact HMA.out, HORA.out, HQA.out⟩
   ·obtain rfl : k = l.length := by omega
    rw [List.take_length] at HMP hm2
    have HIX : Hid (IdxAt w wr b m1 m2 (l.map PV.par) l') := ⟨hq.1, HMP.out, hor, hm1, by rw [ownL_par HMP.out]; exact hm2, HOWN.out⟩
    have HBK := Lib.hid (hq.2.1 _ (.head _)).1
    have a3 : ¬ ((l.length : Int) < (l.length : Int)) := by omega
    clear hq hm1 hm2 hor HMP
    go_wp2
    refine bodyPost_ret (v := .tuple #[.pointer (some ⟨b, 0, none⟩), .int .i64 0]) ?_ rfl (.inr ⟨HC.out, b, rfl, m1, m2, ⟨l', HIX.out⟩, HBK.out⟩)
    simp [results, Tryz.results9, go_sem]
end Go.Proofs.YtoabooljgojoiabGreat

namespace Go.Proofs.YtoabooljgojoiabGreat
open Go.RowKit
def noRing : PV := ⟨⟨0, [], ⟨#[]⟩⟩, none, 0⟩
theorem zeroR (w : World) : (zeroValue 23).run Tryz.prog w = .ok (rvV noRing) w := by kernel_rfl
section
variable {α β : Type} {T : TypeId} {ek : α → Value} {ev : β → Value} {Ok : α → Prop} {W : World} {b : Nat} {l : List (α × β)} {ops : Array Oper} {o : Oper} {a : Act} {KK : Act → World → Prop} {Q : Exit → Act → World → Prop} {E : Prop}
theorem step_lookG (t e : TypeId) (K : KeyK T ek Ok) (ht : Tryz.prog.underlying t = some (.map T e)) {z : β} (hz : ∀ u, (zeroValue e).run Tryz.prog u = .ok (ev z) u) (h : MapIs W b ek ev Ok l) {k : α} (hk : Ok k) (hgd : o.guard = none) (m x : Operand) (hop : o.op = Op.lookup t m x false)
  (hm : a.eval m = .map (some b)) (hx : a.eval x = ek k) (hK : ∀ r : β × Bool, Got l z k r → KK (a.put o.dst (ev r.1)) W) :
  if Region.wanted o (yielded ops a.tmps) = true then Oper.wp Tryz.prog o a W KK Q else E := by
 rw [if_pos (wanted_of hgd)]
 obtain ⟨r, hr, _, hrun⟩ := h.look K ht (hz W) hk
 unfold Oper.wp
 simp [execOp, hop, hm, hx, hrun, Result.andThen]
 exact hK r hr
end
section
variable {α β : Type} {T : TypeId} {ek : α → Value} {ev : β → Value} {Ok : α → Prop} {W : World} {b : Nat} {l : List (α × β)} {ops : Array Oper} {rest : List Oper} {o : Oper} {a : Act} {Q : Exit → Act → World → Prop}
end
end Go.Proofs.YtoabooljgojoiabGreat
