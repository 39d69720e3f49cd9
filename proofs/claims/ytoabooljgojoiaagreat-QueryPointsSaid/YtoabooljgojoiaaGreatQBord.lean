/- The program's New of an index. -/
import Derived.Test.YtoabooljgojoiaaGreatPlanB
import Derived.Test.YtoabooljgojoiaaGreatMapE
import Derived.Test.YtoabooljgojoiaaGreatCutM
import Derived.Test.YtoabooljgojoiaaGreatQOnce
namespace Go.Proofs.YtoabooljgojoiaaGreat
open Go.RowKit
section
variable {α β : Type} {T : TypeId} {ek : α → Value} {ev : β → Value} {Ok : α → Prop} {W W' : World} {b : Nat} {l : List (α × β)} {t e : TypeId} {ops : Array Oper} {o : Oper} {a : Act} {KK : Act → World → Prop} {Q : Exit → Act → World → Prop} {E : Prop}
theorem step_store (hgd : o.guard = none) (m x v : Operand) (t : TypeId) (hop : o.op = Op.mapUpdate t m x v) (e : TypeId) (K : KeyK T ek Ok) (ht : Tryz.prog.underlying t = some (.map T e)) (b : Nat)
  (hm : a.eval m = .map (some b)) (h : MapIs W b ek ev Ok l) {k : α} (hk : Ok k) (hn : k ∉ l.map Prod.fst) {y : β} (hx : a.eval x = ek k) (hv : a.eval v = ev y)
  (hK : ∀ W', MapIs W' b ek ev Ok (l ++ [(k, y)]) → W.grownBy W' (some b) → W'.heap.size = W.heap.size → KK (a.put o.dst undef) W') :
  if Region.wanted o (yielded ops a.tmps) = true then Oper.wp Tryz.prog o a W KK Q else E := by
 rw [if_pos (wanted_of hgd)]
 obtain ⟨W', hrun, r1, r2, r3⟩ := h.store K ht hk hn y
 unfold Oper.wp
 simp [execOp, hop, hm, hx, hv, hrun, Result.andThen]
 exact hK W' r1 r2 r3
end
set_option maxRecDepth 100000 in
set_option maxHeartbeats 2000000 in
theorem edgesQ_any (ps : List (Int × Int)) (A : Option Addr) (cap : Nat) (hn : ps.length ≤ 1000000) (w : World) (hr : Pts w w.heap.size A ps) :
  Calls Tryz.prog 45 #[.slice A ps.length cap] w fun e w' => ∃ v, e = .returned v ∧ RowI w 61 4 encG v (edg ps) w' := by
 have HR := Lib.hid hr
 have HR0 : RowI w 61 4 encG (.slice none 0 0) [] w := RowI.nil (Below.refl _ _)
 clear hr
 go_enter Tryz.func45, Tryz.ntmps45
 go_wp2_with fail
 go_loopg [3, 8] ps.length (fun g v i wr => ∃ k : Nat, k ≤ ps.length ∧ g = ps.length - k ∧ i = .int .i64 k ∧ RowI w 61 4 encG v ((edg ps).take k) wr)
 case atStart => exact ⟨0, Nat.zero_le _, rfl, rfl, by rw [List.take_zero]; exact HR0⟩
 case round =>
  clear HR0
  obtain ⟨k, hk, hgk, rfl, HV⟩ := hrel
  have HGK := Lib.hid hgk
  clear hgk
  by_cases hlt : k < ps.length
  ·obtain ⟨jk, hjk, ek1, ek2, ek3⟩ := next_place hlt
   obtain ⟨ad, hA, F0⟩ := HR.out.fp hlt (Nat.mod_eq_of_lt hlt)
   obtain ⟨ad', e', F1⟩ := HR.out.fp hjk ek1
   obtain rfl := Option.some.inj (hA.symm.trans e')
   obtain rfl := hA
   have HT := Lib.hid (edg_take hlt)
   have hlen : ((edg ps).take k).length ≤ 1000000 := by have := List.length_take_le k (edg ps); omega
   have HLN := Lib.hid hlen
   have b0 : (0 : Int) ≤ (k : Int) := by omega
   have b1 : (k : Int) < (ps.length : Int) := by omega
   have b2 : (0 : Int) < (ps.length : Int) := by omega
   have b4 : (0 : Int) ≤ (jk : Int) := by omega
   have b5 : (jk : Int) < (ps.length : Int) := by omega
   have b6 : (ps.length : Int) ≤ 1000000 := by omega
   have hh : Hold w [] wr := ⟨HV.1, fun _ h => (by cases h), List.Pairwise.nil⟩
   obtain ⟨d0, d1⟩ := hh.fp F0
   have HF1 := Lib.hid F1
   have HH := Lib.hid hh
   clear F0 F1 e' ek1 hlen hh
   generalize nx ps k = a at *
   generalize nx ps (k + 1) = b at *
   generalize (edg ps).take k = es at *
   go_upto_region 5 with (fail)
   clear d0 d1
   have HQ := HH.out.new #[.int .i64 a.1, .int .i64 a.2] 28
   have HV1 := HV.alloc (Obj.cells #[.int .i64 a.1, .int .i64 a.2] 28 (0, 0))
   have HN1 := HV.row_ne (Nat.le_refl _)
   generalize (World.alloc _ _) = W1 at HQ HV1 ⊢
   generalize wr.heap.size = gb at HQ HN1 ⊢
   have HN := Lib.hid HN1
   clear HN1 HV HH
   have z1 : ((ps.length : Int) == 0) = false := by rw [beq_eq_false_iff_ne]; omega
   have z2 : ¬ (ps.length : Int) = 0 := by omega
   have z7 : ¬ ps.length = 0 := by omega
   have z8 : ¬ ps = [] := fun e => z7 (by rw [e]; rfl)
   have z3 := wrap_in (n := (k : Int) + 1) (by omega) (by omega)
   have z4 := wrap_in (n := (k : Int)) (by omega) (by omega)
   have z5 := wrap_in (n := (jk : Int)) (by omega) (by omega)
   have HK2 := Lib.hid (fun W (h : Hold w [(gb, #[.int .i64 a.1, .int .i64 a.2], 28)] W) => show W.cell? ⟨gb, 0, none⟩ = some (.int .i64 a.1) ∧ W.cell? ⟨gb, 1, none⟩ = some (.int .i64 a.2) ∧ W.cell? (ad.add (jk * 2)) = some (.int .i64 b.1) ∧ W.cell? ⟨(ad.add (jk * 2)).block, (ad.add (jk * 2)).off + 1, none⟩ = some (.int .i64 b.2) from
    ⟨(h.pt (.head _)).1, (h.pt (.head _)).2, (h.fp HF1.out).1, (h.fp HF1.out).2⟩)
   go_region_held3 (fun W => W.cell? ⟨gb, 0, none⟩ = some (.int .i64 a.1) ∧ W.cell? ⟨gb, 1, none⟩ = some (.int .i64 a.2) ∧ W.cell? (ad.add (jk * 2)) = some (.int .i64 b.1) ∧ W.cell? ⟨(ad.add (jk * 2)).block, (ad.add (jk * 2)).off + 1, none⟩ = some (.int .i64 b.2)) (first | exact HK2.out _ HQ.drew | exact HK2.out _ (HQ.alloc _).drew | exact HK2.out _ (HQ.drew.alloc _) | exact HK2.out _ HQ9)
    ((refine step_append_itemsG kindG Tryz.underlying51 (HV1.alloc _).drew [(a, b)] (some ⟨W1.heap.size, 0, none⟩) 1 (items_one (heap_alloc_new W1 _) rfl (by simp)) (fun e => by cases e) (by have := HLN.out; unfold maxLen; simp; omega) (by have := HLN.out; simp; omega) rfl _ _ rfl rfl rfl ?_; rintro v9 w9 HR9 hg9; have HQ9 := Hold.grow (HQ.alloc _).drew HR9.1 hg9 (fun e he => by rcases List.mem_cons.1 he with rfl | he; exact HN.out; cases he); clear hg9))
   go_wp2_with fail
   go_roundg (ps.length - (k + 1))
   case measure => have := HGK.out; omega
   case rel => exact ⟨k + 1, by omega, rfl, by go_num, by rw [HT.out]; exact HR9⟩
  ·obtain rfl : k = ps.length := by omega
   have e : (edg ps).take ps.length = edg ps := List.take_of_length_le (by rw [edg_len]; exact Nat.le_refl _)
   rw [e] at HV
   have HK := Lib.hid HV
   clear HV e
   go_wp2
   go_ret
   exact ⟨_, rfl, HK.out⟩

theorem keyJ : KeyK 3 iv In64 where
 K := Go.Maps.int_keyed Tryz.underlying3
 lit a ha := by
  have w1 := wf64 ha
  refine ⟨_, by
   unfold keyOf
   rw [Tryz.underlying3]
   simp [mapKey, iv, w1, Tryz.underlying3]
   rfl⟩
 inj a b h := by
  unfold iv at h
  simpa using h
def rvV (x : PV) : Value := .slice x.A x.par.ring.length x.cap
def ringL (l : List PV) : List (Int × PV) := l.map fun x => (x.par.id, x)
theorem ownL_par {l l' : List PV} (h : l'.map PV.par = l.map PV.par) : ownL l' = ownL l := by
 have key : ∀ m : List PV, ownL m = (m.map PV.par).flatMap fun x => (edg x.ring).map fun e => (e, x.id) := fun m => by
  unfold ownL
  rw [List.flatMap_map]
 rw [key, key, h]
theorem map_row {α β : Type} {W : World} {m : Nat} {ek : α → Value} {ev : β → Value} {Ok : α → Prop} {L : List (α × β)} (h : MapIs W m ek ev Ok L) {B e sz n : Nat} {v : Value} {xs : List Value} (hr : W.ownsRow B e sz v n xs) : v.ownBlock ≠ some m := fun e' => by
 obtain ⟨es, c, hb, -⟩ := h
 rcases hr.2 with ⟨rfl, _⟩ | ⟨g', cap, cur, rfl, _, hg, _⟩
 ·cases e'
 ·obtain rfl : g' = m := Option.some.inj e'
  rw [hb] at hg
  cases hg
theorem map_box {α β : Type} {w W : World} {m : Nat} {ek : α → Value} {ev : β → Value} {Ok : α → Prop} {L : List (α × β)} (h : MapIs W m ek ev Ok L) {K : List (Nat × Array Value × TypeId)} (hq : Hold w K W) : ∀ e ∈ K, some m ≠ some e.1 := fun e he e' => by
 obtain ⟨es, c, hb, -⟩ := h
 obtain rfl : m = e.1 := Option.some.inj e'
 rw [(hq.2.1 e he).1] at hb
 cases hb
theorem OwnRs.map {w W W' : World} {l : List PV} {α β : Type} {m : Nat} {ek : α → Value} {ev : β → Value} {Ok : α → Prop} {L : List (α × β)} (h : OwnRs w l W) (hm : MapIs W m ek ev Ok L) (hg : W.grownBy W' (some m)) : OwnRs w l W' := fun x hx => (h x hx).kept hg (.inr (map_row hm (h x hx)))
theorem grownBy_drew (W : World) (row : Option Nat) : W.grownBy W.drew row := ⟨rfl, rfl, rfl, Nat.le_refl _, fun _ _ _ => rfl⟩
structure IdxAt (w W : World) (b m1 m2 : Nat) (ps : List Par) (l' : List PV) : Prop where
 below : Below w.heap.size w W
 par : l'.map PV.par = ps
 rows : OwnRs w l' W
 rings : MapIs W m1 iv rvV In64 (ringL l')
 left : MapIs W m2 gv iv OkE (ownL l')
 own : w.heap.size ≤ b ∧ w.heap.size ≤ m1 ∧ w.heap.size ≤ m2
set_option maxRecDepth 100000 in
set_option maxHeartbeats 8000000 in
theorem New_any (o : List (Int × Int)) (Ao : Option Addr) (co : Nat) (l : List PV) (Ap : Option Addr) (cp : Nat) (hl : l.length ≤ 1000000) (ho : o.length ≤ 8796093022208) (hown : ∀ x ∈ l, x.par.own.size ≤ maxLen) (w : World) (h : PlanAt w o Ao co l Ap cp) :
  Calls Tryz.prog 25 #[.agg #[.slice Ao o.length co, .slice Ap l.length cp]] w fun e w' => (chkB o l = false ∧ e = .returned (.tuple #[.pointer none, .int .i64 2]) ∧ Below w.heap.size w w') ∨
   (chkB o l = true ∧ ∃ b, e = .returned (.tuple #[.pointer (some ⟨b, 0, none⟩), .int .i64 0]) ∧ ∃ m1 m2, (∃ l', IdxAt w w' b m1 m2 (l.map PV.par) l') ∧ w'.heap[b]? = some (.cells #[.map (some m1), .map (some m2), .int .u32 0, .int .i32 0, .int .u32 0, .map none, .int .i64 0] 109 (0, 0))) := by
 have HCK := Lib.hid (fun W (hb : Below w.heap.size w W) => PCheck_any o Ao co l Ap cp hl ho h.caps.1 h.caps.2 hown W (h.prs.on hb) (h.out.on hb))
 have HR := Lib.hid (fun W (hb : Below w.heap.size w W) => h.prs.on hb)
 have HQ := (Hold.refl w).new #[.slice Ao o.length co, .slice Ap l.length cp] 26
 have hmm := @run_makeMap Tryz.prog
 clear h
 go_enter Tryz.func25, Tryz.ntmps25
 go_upto_region 1 with (fail)
 generalize (World.alloc _ _) = W1 at HQ ⊢
 obtain ⟨g1, hg1⟩ : ∃ g, w.heap.size = g := ⟨_, rfl⟩
 have HG1 := Lib.hid hg1
 rw [hg1] at HQ ⊢
 clear hg1
 obtain ⟨c0, c1⟩ := HQ.pt (.head _)
 have HQ1 := Lib.hid HQ
 clear HQ
 go_wp2_with fail
 go_at_call 55
 refine (HCK.out _ HQ1.out.1).mono ?_
 rintro e' W2 ⟨rfl, hB⟩
 have HQ2 := Lib.hid (HQ1.out.on hB)
 clear hB c0 c1 HCK
 cases hc : checkB o Ao co l
 ·rw [ckE_false hc]
  have HC : Hid (chkB o l = false) := (check_eq o Ao co l).symm.trans hc
  clear hc
  go_wp2
  refine bodyPost_ret (v := .tuple #[.pointer none, .int .i64 2]) ?_ rfl (.inl ⟨HC.out, rfl, HQ2.out.1⟩)
  simp [results, Tryz.results25, go_sem]
 ·rw [ckE_true hc]
  have HC : Hid (chkB o l = true) := (check_eq o Ao co l).symm.trans hc
  have HCP : Hid (CheckP o l) := chkB_iff.1 HC.out
  clear hc
  have HPQ : PlanQ o (l.map PV.par) := chkB_plan.1 HC.out
  have HND : Hid ((edgs (rings l)).Nodup) := by
   have h := HPQ.fit.once
   unfold ringsQ at h
   rw [List.map_map] at h
   exact h
  have HGD : Hid (∀ x ∈ l, (∀ p ∈ x.par.ring, Gd p) ∧ x.par.ring.length ≤ 128 ∧ In64 x.par.id) := fun x hx => by
   have h1 := normP_small (HPQ.each _ (List.mem_map_of_mem hx))
   have h2 := (HPQ.fine.2.1 _ (List.mem_map_of_mem hx)).1
   refine ⟨h1.2.2, h1.2.1, ?_⟩
   unfold idB at h2
   simp only [Bool.and_eq_true, decide_eq_true_eq] at h2
   unfold In64
   omega
  have HID : Hid ((l.map PV.par).Pairwise fun a b => a.id < b.id) := HPQ.fine.1
  have HL64 : Hid (l.length ≤ 64) := by have := HPQ.fine.2.2.2.1; rwa [List.length_map] at this
  clear HPQ
  obtain ⟨c0, c1⟩ := HQ2.out.pt (.head _)
  have hq4 := ((HQ2.out.alloc (.map #[] 0)).alloc (.map #[] 0)).new' #[.map (some W2.heap.size), .map (some (W2.heap.size + 1)), .int .u32 0, .int .i32 0, .int .u32 0, .map none, .int .i64 0] 109 (n := W2.heap.size + 2) (by simp)
  have hm1 : MapIs (((W2.alloc (.map #[] 0)).alloc (.map #[] 0)).alloc (Obj.cells #[.map (some W2.heap.size), .map (some (W2.heap.size + 1)), .int .u32 0, .int .i32 0, .int .u32 0, .map none, .int .i64 0] 109 (0, 0))) W2.heap.size iv rvV In64 (ringL []) := ((MapIs.made W2).alloc _).alloc _
  have hm2 : MapIs (((W2.alloc (.map #[] 0)).alloc (.map #[] 0)).alloc (Obj.cells #[.map (some W2.heap.size), .map (some (W2.heap.size + 1)), .int .u32 0, .int .i32 0, .int .u32 0, .map none, .int .i64 0] 109 (0, 0))) (W2.heap.size + 1) gv iv OkE (ownL (l.take 0)) := by
   have h := (MapIs.made (ek := gv) (ev := iv) (Ok := OkE) (W2.alloc (.map #[] 0))).alloc (Obj.cells #[.map (some W2.heap.size), .map (some (W2.heap.size + 1)), .int .u32 0, .int .i32 0, .int .u32 0, .map none, .int .i64 0] 109 (0, 0))
   rw [World.size_alloc] at h
   exact h
  have HB2 : Hid (w.heap.size ≤ W2.heap.size) := HQ2.out.1.size
  go_upto_region 5 with (fail)
  clear c0 c1 hmm
  generalize (World.alloc _ _) = W4 at hq4 hm1 hm2 ⊢
  have hne12 : W2.heap.size ≠ W2.heap.size + 1 := by omega
  have hown2 : w.heap.size ≤ W2.heap.size + 2 ∧ w.heap.size ≤ W2.heap.size ∧ w.heap.size ≤ W2.heap.size + 1 := by have := HB2.out; omega
  have HNB : Hid (W2.heap.size + 2 ≠ W2.heap.size ∧ W2.heap.size + 2 ≠ W2.heap.size + 1 ∧ g1 ≠ W2.heap.size ∧ g1 ≠ W2.heap.size + 1) := by
   have := HQ2.out.lt (.head _)
   unfold Hid
   omega
  generalize W2.heap.size + 2 = b at *
  generalize W2.heap.size + 1 = m2 at *
  generalize W2.heap.size = m1 at *
  have HN12 := Lib.hid hne12
  have HOWN := Lib.hid hown2
  have HQ4 := Lib.hid hq4
  have HM1 := Lib.hid hm1
  have HM2 := Lib.hid hm2
  obtain ⟨c0, c1⟩ := hq4.pt (.tail _ (.head _))
  clear hq4 hm1 hm2 hne12 hown2 HQ1 HQ2 HB2
  go_wp2_with fail
  clear c0 c1
  go_loopg [22] l.length (fun g i wr => ∃ (k : Nat) (l' : List PV), k ≤ l.length ∧ g = l.length - k ∧ i = .int .i64 k ∧ Hid (l'.map PV.par = (l.take k).map PV.par) ∧ MapIs wr m1 iv rvV In64 (ringL l') ∧ MapIs wr m2 gv iv OkE (ownL (l.take k)) ∧ OwnRs w l' wr ∧ Hold w [(b, #[.map (some m1), .map (some m2), .int .u32 0, .int .i32 0, .int .u32 0, .map none, .int .i64 0], 109), (g1, #[.slice Ao o.length co, .slice Ap l.length cp], 26)] wr)
  case atStart => exact ⟨0, [], Nat.zero_le _, rfl, rfl, rfl, HM1.out, HM2.out, (fun x hx => by cases hx), HQ4.out⟩
  case round =>
   clear HM1 HM2 HQ4
   obtain ⟨k, l', hk, hgk, rfl, HMP, hm1, hm2, hor, hq⟩ := hrel
   have HGK := Lib.hid hgk
   clear hgk
   by_cases hlt : k < l.length
   ·obtain ⟨ad, hA, -, d0, d1, d2⟩ := (HR.out _ hq.1).at hlt
    have hx := HGD.out _ (List.getElem_mem hlt)
    have HXP : Hid (∀ W, Below w.heap.size w W → Pts W W.heap.size l[k].A l[k].par.ring ∧ NilOk l[k].A l[k].cap) := fun W hb => by
     have h := (HR.out W hb).2 _ (List.getElem_mem hlt)
     exact ⟨h.1, h.2.1⟩
    have HKT := Lib.hid (ownL_take hlt)
    have HKS := Lib.hid (ownL_keys (l.take k))
    have HPF := Lib.hid (fun j => edgs_prefix hlt j)
    have HGE := Lib.hid (fun e he => edg_gd (e := e) hx.1 he)
    have HEL := Lib.hid (edg_len l[k].par.ring)
    have HLE : Hid (l[k].par.ring.length ≤ 128) := hx.2.1
    have HI64 : Hid (In64 l[k].par.id) := hx.2.2
    have HNEW : Hid (l[k].par.id ∉ (ringL l').map Prod.fst) := fun hm => by
     have e : (ringL l').map Prod.fst = ((l.take k).map PV.par).map Par.id := by
      rw [← HMP.out]
      unfold ringL
      rw [List.map_map, List.map_map]
      rfl
     rw [e, List.map_map] at hm
     obtain ⟨y, hy, hyi⟩ := List.mem_map.1 hm
     obtain ⟨i, hi, rfl⟩ := List.getElem_of_mem hy
     rw [List.length_take] at hi
     have h1 := List.pairwise_iff_getElem.1 HID.out i k (by rw [List.length_map]; omega) (by rw [List.length_map]; exact hlt) (by omega)
     rw [List.getElem_map, List.getElem_map] at h1
     rw [List.getElem_take] at hyi
     have : l[i].par.id = l[k].par.id := hyi
     omega
    have HMT : Hid ((l.take (k + 1)).map PV.par = (l.take k).map PV.par ++ [l[k].par]) := by
     unfold Hid
     rw [List.take_succ_eq_append_getElem hlt, List.map_append]; rfl
    have b0 : (0 : Int) ≤ (k : Int) := by omega
    have b1 : (k : Int) < (l.length : Int) := by omega
    have b2 : (l.length : Int) ≤ 64 := by have := HL64.out; omega
    subst hA
    clear hx
    generalize edgs (rings (l.take k)) = pre at *
    generalize ownL (l.take k) = om at *
    generalize l[k].par = x at *
    generalize l[k].A = Ak at *
    generalize l[k].cap = ck at *
    go_upto_region 8 with (fail)
    have hb1 := (Below.refl wr.heap.size wr).alloc (Nat.le_refl _) (.cells #[.int .i64 x.id, .slice Ak x.ring.length ck, .string x.own] 39 (0, 0))
    have hq5 := hq.new #[.int .i64 x.id, .slice Ak x.ring.length ck, .string x.own] 39
    have hm15 := hm1.on hb1 hm1.lt
    have hm25 := hm2.on hb1 hm2.lt
    have hor5 := hor.on hb1
    clear hq hm1 hm2 hor hb1 d0 d1 d2
    generalize (World.alloc _ _) = W5 at hq5 hm15 hm25 hor5 ⊢
    generalize wr.heap.size = gx at hq5 ⊢
    have HQ5 := Lib.hid hq5.drew
    have HM15 := Lib.hid hm15.drew
    have HM25 := Lib.hid hm25.drew
    have HOR5 : Hid (OwnRs w l' W5.drew) := hor5.on ⟨rfl, rfl, rfl, Nat.le_refl _, fun _ _ => rfl⟩
    clear hq5 hm15 hm25 hor5
    refine wp_region_held_drew (S := fun W => (W.cell? ⟨b, 0, none⟩ = some (.map (some m1))) ∧ W.cell? ⟨gx, 0, none⟩ = some (.int .i64 x.id) ∧ W.cell? ⟨gx, 1, none⟩ = some (.slice Ak x.ring.length ck)) (by kernel_rfl) ?_ (fun hHeld => ?_)
    ·(try dsimp only)
     exact ⟨HQ5.out.cell (.tail _ (.head _)) 0, HQ5.out.cell (.head _) 0, HQ5.out.cell (.head _) 1⟩
    refine tZ 0 ?_; refine tZ 1 ?_; refine tZ 2 ?_; refine tZ 3 ?_; refine tZ 4 ?_; refine tZ 5 ?_; refine tZ 6 ?_; refine tZ 7 ?_
    refine wpAnyH_ready (rs := [8]) (by decide +kernel) (by simp) ?_
    refine AllReadyH.cons rfl (fun K hK => ?_) AllReadyH.nil
    (try simp only [jA, jB, jC])
    go_simp
    (go_at_call 56; refine (clone_any x.ring Ak ck (by have := HLE.out; omega) (HXP.out _ HQ5.out.1).2 _ (HXP.out _ HQ5.out.1).1).mono ?_; rintro e' W6 ⟨v, rfl, hv⟩; have hq6 := HQ5.out.on hv.1; have hm16 := HM15.out.on hv.1 HM15.out.lt; have hm26 := HM25.out.on hv.1 HM25.out.lt; have hor6 := HOR5.out.on hv.1; have hr6 := hv.base HQ5.out.1; obtain ⟨A5, c5, rfl, -, -⟩ := hr6.nilOk)
    refine hK.out _ _ ?_ (fun hHeld => ?_)
    focus ((try dsimp only); exact ⟨hq6.cell (.tail _ (.head _)) 0, hq6.cell (.head _) 0, hq6.cell (.head _) 1⟩; done)
    clear hK K
    (try simp only [Act.put, jA, jB, jC, jD, jE, jF])
    refine wpAnyH_ready (rs := [9]) (by decide +kernel) (by simp) ?_
    refine AllReadyH.cons rfl (fun K hK => ?_) AllReadyH.nil
    refine step_store (y := (⟨x, A5, c5⟩ : PV)) (by rfl) _ _ _ 90 rfl 23 keyJ Tryz.underlying90 m1 (by rfl) hm16 HI64.out HNEW.out (by rfl) (by rfl) ?_; intro W7 hm17 hg7 hs7; have hq7 := Hold.grow hq6 (hq6.1.grown hg7 hq6.1.size (fun k e => by have := HOWN.out; have := Option.some.inj e; omega)) hg7 (map_box hm16 hq6); have hm27 := hm26.kept hg7 (fun e => HN12.out (Option.some.inj e).symm); have hor7 := OwnRs.map hor6 hm16 hg7; have hr7 := hr6.2.kept hg7 (.inr (map_row hm16 hr6.2))
    refine hK.out _ _ ?_ (fun hHeld => ?_)
    focus ((try dsimp only); exact ⟨hq7.cell (.tail _ (.head _)) 0, hq7.cell (.head _) 0, hq7.cell (.head _) 1⟩; done)
    clear hK K
    (try simp only [Act.put, jA, jB, jC])
    refine wpAnyH_done (by decide +kernel) ?_ _
    have HQ7 := Lib.hid hq7
    have HM17 : Hid (MapIs W7 m1 iv rvV In64 (ringL (l' ++ [⟨x, A5, c5⟩]))) := by
     unfold Hid ringL at *
     rw [List.map_append]
     exact hm17
    have HM27 := Lib.hid hm27
    have HOR7 : Hid (OwnRs w (l' ++ [⟨x, A5, c5⟩]) W7) := fun y hy => by
     rcases List.mem_append.1 hy with hy | hy
     ·exact hor7 y hy
     ·obtain rfl := List.mem_singleton.1 hy
      exact hr7
    have HMP7 : Hid ((l' ++ [(⟨x, A5, c5⟩ : PV)]).map PV.par = (l.take (k + 1)).map PV.par) := by
     unfold Hid
     rw [HMT.out, List.map_append, HMP.out]; rfl
    obtain ⟨c0, c1⟩ : W7.cell? ⟨gx, 0, none⟩ = some (.int .i64 x.id) ∧ W7.cell? ⟨gx, 1, none⟩ = some (.slice Ak x.ring.length ck) := ⟨hq7.cell (.head _) 0, hq7.cell (.head _) 1⟩
    clear hq7 hm17 hm27 hor7 hr7 hq6 hm16 hm26 hor6 hr6 hg7 hs7 hv HQ5 HM15 HM25 HOR5 HNEW HMP hHeld
    go_wp2_with fail
    go_at_call 45
    refine (edgesQ_any x.ring Ak ck (by have := HLE.out; omega) _ (HXP.out _ HQ7.out.1).1).mono ?_
    rintro e w1 ⟨v, rfl, HV1⟩
    obtain ⟨A1, c1', hv1, HI, HNO⟩ := HV1.items
    have hm28 := HM27.out.on HV1.1 HM27.out.lt
    have hq8 := HQ7.out.on HV1.1
    have hm18 := HM17.out.on HV1.1 HM17.out.lt
    have hor8 := HOR7.out.on HV1.1
    have hne1 : ∀ ad, A1 = some ad → some m2 ≠ some ad.block := fun ad' e h => map_row hm28 HV1.2 (by rw [hv1, e]; exact congrArg some (Option.some.inj h).symm)
    have HNE := Lib.hid hne1
    subst hv1
    have HI0 := Lib.hid HI
    have HM28 := Lib.hid hm28
    have HQ8 := Lib.hid hq8
    have HM18 := Lib.hid hm18
    have HOR8 := Lib.hid hor8
    clear HV1 c0 c1 HNO hne1 HI hm28 hq8 hm18 hor8 HQ7 HM17 HM27 HOR7
    generalize hes : edg x.ring = es at *
    have HESL : Hid (es.length ≤ 128) := by unfold Hid; rw [HEL.out]; exact HLE.out
    clear hes
    go_wp2_with fail
    go_loopg [39] es.length (fun g i wr2 => ∃ j : Nat, j ≤ es.length ∧ g = es.length - j ∧ i = .int .i64 j ∧ MapIs wr2 m2 gv iv OkE (om ++ (es.take j).map fun e => (e, x.id)) ∧ w1.grownBy wr2 (some m2))
    case atStart => exact ⟨0, Nat.zero_le _, rfl, rfl, by rw [List.take_zero, List.map_nil, List.append_nil]; exact HM28.out, World.grownBy.refl _ _⟩
    case round =>
     obtain ⟨j, hj, hgj, rfl, HM, hgr⟩ := hrel
     have HGJ := Lib.hid hgj
     clear hgj
     have hqr := Hold.grow HQ8.out (HQ8.out.1.grown hgr HQ8.out.1.size (fun k e => by have := HOWN.out; have := Option.some.inj e; omega)) hgr (map_box HM28.out HQ8.out)
     by_cases hjt : j < es.length
     ·obtain ⟨ad3, rfl, hadb, hc0, hc⟩ := Items.at kindG.len (HI0.out.but hgr HNE.out) hjt
      have d0 := hc0 _ (by decide) rfl
      have d1 := hc 1 _ (by decide) (by decide) rfl
      have d2 := hc 2 _ (by decide) (by decide) rfl
      have d3 := hc 3 _ (by decide) (by decide) rfl
      have b3 : (0 : Int) ≤ (j : Int) := by omega
      have b4 : (j : Int) < (es.length : Int) := by omega
      have b5 : (es.length : Int) ≤ 128 := by have := HESL.out; omega
      have HOK : Hid (OkE es[j]) := okE_of (HGE.out _ (List.getElem_mem hjt)).1 (HGE.out _ (List.getElem_mem hjt)).2
      have HTK : Hid (es.take (j + 1) = es.take j ++ [es[j]]) := List.take_succ_eq_append_getElem hjt
      have HMK : Hid (es[j] ∉ (om ++ (es.take j).map fun e => (e, x.id)).map Prod.fst) := by
       have hkeys : (om ++ (es.take j).map fun e => (e, x.id)).map Prod.fst = pre ++ es.take j := by
        rw [List.map_append, HKS.out, List.map_map]
        congr 1
        exact List.map_id _
       unfold Hid
       rw [hkeys]
       intro hm
       have h1 := HPF.out (j + 1)
       rw [HTK.out] at h1
       have h := HND.out.sublist h1
       rw [← List.append_assoc, List.nodup_append] at h
       exact h.2.2 _ hm _ (by simp) rfl
      clear hc0 hc
      generalize es[j] = y at *
      go_upto_region 12 with (fail)
      have hq9 := hqr.new #[.int .i64 y.1.1, .int .i64 y.1.2, .int .i64 y.2.1, .int .i64 y.2.2] 61
      have hm9 := HM.alloc (.cells #[.int .i64 y.1.1, .int .i64 y.1.2, .int .i64 y.2.1, .int .i64 y.2.2] 61 (0, 0))
      have hg9 := hgr.trans (World.grownBy_alloc wr (.cells #[.int .i64 y.1.1, .int .i64 y.1.2, .int .i64 y.2.1, .int .i64 y.2.2] 61 (0, 0)) (some m2))
      clear d0 d1 d2 d3 HM hgr hqr hadb
      generalize (World.alloc _ _) = W9 at hq9 hm9 hg9 ⊢
      generalize wr.heap.size = ge at hq9 ⊢
      have HQ9 := Lib.hid hq9.drew
      have HM9 := Lib.hid hm9.drew
      have HG9 := Lib.hid (hg9.trans (show W9.grownBy W9.drew (some m2) from grownBy_drew W9 _))
      clear hq9 hm9 hg9
      refine wp_region_held_drew (S := fun W => W.cell? ⟨b, 1, none⟩ = some (.map (some m2)) ∧ W.cell? ⟨gx, 0, none⟩ = some (.int .i64 x.id) ∧ W.cell? ⟨ge, 0, none⟩ = some (.int .i64 y.1.1) ∧ W.cell? ⟨ge, 1, none⟩ = some (.int .i64 y.1.2) ∧ W.cell? ⟨ge, 2, none⟩ = some (.int .i64 y.2.1) ∧ W.cell? ⟨ge, 3, none⟩ = some (.int .i64 y.2.2)) (by kernel_rfl) ?_ (fun hHeld => ?_)
      ·(try dsimp only)
       exact ⟨HQ9.out.cell (.tail _ (.tail _ (.head _))) 1, HQ9.out.cell (.tail _ (.head _)) 0, HQ9.out.q4 (.head _)⟩
      refine tZ 0 ?_; refine tZ 1 ?_; refine tZ 2 ?_; refine tZ 3 ?_; refine tZ 4 ?_; refine tZ 5 ?_; refine tZ 6 ?_
      refine wpAnyH_ready (rs := [7]) (by decide +kernel) (by simp) ?_
      refine AllReadyH.cons rfl (fun K hK => ?_) AllReadyH.nil
      refine step_store (k := y) (y := x.id) (by rfl) _ _ _ 91 rfl 3 keyE Tryz.underlying91 m2 (by rfl) HM9.out HOK.out HMK.out (by rfl) (by rfl) ?_; intro W10 hm10 hg10 hs10; have hq10 := Hold.grow HQ9.out (HQ9.out.1.grown hg10 HQ9.out.1.size (fun k e => by have := HOWN.out; have := Option.some.inj e; omega)) hg10 (map_box HM9.out HQ9.out)
      refine hK.out _ _ ?_ (fun hHeld => ?_)
      focus ((try dsimp only); exact ⟨hq10.cell (.tail _ (.tail _ (.head _))) 1, hq10.cell (.tail _ (.head _)) 0, hq10.q4 (.head _)⟩; done)
      clear hK K
      (try simp only [Act.put, jA, jB, jC])
      refine wpAnyH_done (by decide +kernel) ?_ _
      have HMA := Lib.hid hm10
      have HGA := Lib.hid (HG9.out.trans hg10)
      clear hm10 hg10 hs10 hq10 hHeld
      go_wp2_with fail
      go_roundg (es.length - (j + 1))
      case measure => have := HGJ.out; omega
      case rel => exact ⟨j + 1, by omega, rfl, by go_num, by rw [HTK.out, List.map_append, ← List.append_assoc]; exact HMA.out, HGA.out⟩
     ·obtain rfl : j = es.length := by omega
      rw [List.take_length] at HM
      have HMA := Lib.hid HM
      have HGA := Lib.hid hgr
      have HQA := Lib.hid hqr.tail
      have HM1A := Lib.hid (HM18.out.kept hgr (fun e => HN12.out (Option.some.inj e)))
      have HORA := Lib.hid (OwnRs.map HOR8.out HM28.out hgr)
      clear HM hgr hqr
      go_wp2_with fail
      go_roundg (l.length - (k + 1))
      case measure => have := HGK.out; omega
      case rel => exact ⟨k + 1, _, by omega, rfl, by go_num, HMP7, HM1A.out, by rw [HKT.out]; exact HMA.out, HORA.out, HQA.out⟩
   ·obtain rfl : k = l.length := by omega
    rw [List.take_length] at HMP hm2
    have HIX : Hid (IdxAt w wr b m1 m2 (l.map PV.par) l') := ⟨hq.1, HMP.out, hor, hm1, by rw [ownL_par HMP.out]; exact hm2, HOWN.out⟩
    have HBK := Lib.hid (hq.2.1 _ (.head _)).1
    have a3 : ¬ ((l.length : Int) < (l.length : Int)) := by omega
    clear hq hm1 hm2 hor HMP
    go_wp2
    refine bodyPost_ret (v := .tuple #[.pointer (some ⟨b, 0, none⟩), .int .i64 0]) ?_ rfl (.inr ⟨HC.out, b, rfl, m1, m2, ⟨l', HIX.out⟩, HBK.out⟩)
    simp [results, Tryz.results25, go_sem]
end Go.Proofs.YtoabooljgojoiaaGreat

namespace Go.Proofs.YtoabooljgojoiaaGreat
open Go.RowKit
set_option maxRecDepth 100000 in
set_option maxHeartbeats 1000000 in
theorem turnedQ_any (e : (Int × Int) × (Int × Int)) (w : World) : Calls Tryz.prog 38 #[.agg #[.int .i64 e.1.1, .int .i64 e.1.2, .int .i64 e.2.1, .int .i64 e.2.2]] w fun e' w' => e' = .returned (.agg #[.int .i64 (bk e).1.1, .int .i64 (bk e).1.2, .int .i64 (bk e).2.1, .int .i64 (bk e).2.2]) ∧ Below w.heap.size w w' := by
 have HQ := ((Hold.refl w).new #[.int .i64 e.1.1, .int .i64 e.1.2, .int .i64 e.2.1, .int .i64 e.2.2] 61).new' #[.int .i64 0, .int .i64 0, .int .i64 0, .int .i64 0] 61 (n := w.heap.size + 1) (by simp)
 go_enter Tryz.func38, Tryz.ntmps38
 go_upto_region 1 with (fail)
 generalize (World.alloc _ _) = W1 at HQ ⊢
 generalize w.heap.size + 1 = g1 at HQ ⊢
 obtain ⟨g0, hg0⟩ : ∃ g, w.heap.size = g := ⟨_, rfl⟩
 rw [hg0] at HQ ⊢
 have HG0 := Lib.hid hg0
 clear hg0
 obtain ⟨c0, c1, c2, c3⟩ := HQ.q4 (List.mem_cons_of_mem _ List.mem_cons_self)
 obtain ⟨k0, k1, k2, k3⟩ := HQ.q4 List.mem_cons_self
 obtain ⟨z0, z1, z2, z3⟩ := HQ.z4 List.mem_cons_self
 go_wp2
 have HE := Hold.set4 (L1 := []) HQ (.int .i64 e.2.1) (.int .i64 e.2.2) (.int .i64 e.1.1) (.int .i64 e.1.2)
 obtain ⟨n0, n1, n2, n3⟩ := HE.q4 List.mem_cons_self
 refine bodyPost_ret (v := .agg #[.int .i64 (bk e).1.1, .int .i64 (bk e).1.2, .int .i64 (bk e).2.1, .int .i64 (bk e).2.2]) ?_ rfl ⟨rfl, HE.1⟩
 simp [results, Tryz.results38, go_sem, n0, n1, n2, n3, bk]
def bdE (ps : List Par) (a c : Int) : Int := if (¬ a ∈ ps.map Par.id) ∨ ¬ c ∈ ps.map Par.id then 5 else if a = c then 1 else 0
def noRing : PV := ⟨⟨0, [], ⟨#[]⟩⟩, none, 0⟩
theorem zeroR (w : World) : (zeroValue 23).run Tryz.prog w = .ok (rvV noRing) w := by kernel_rfl
theorem ringL_keys (l : List PV) : (ringL l).map Prod.fst = (l.map PV.par).map Par.id := by
 unfold ringL
 rw [List.map_map, List.map_map]
 rfl
set_option maxRecDepth 100000 in
set_option maxHeartbeats 4000000 in
theorem bfault_any (ps : List Par) (l' : List PV) (hps : l'.map PV.par = ps) (b m1 m2 : Nat) (d s q v : Value) (n a c : Int) (hn : IntKind.i64.wrap (n + 1) = n + 1) (ha : In64 a) (hc : In64 c) (w : World) (hb : w.heap[b]? = some (.cells #[.map (some m1), .map (some m2), d, s, q, v, .int .i64 n] 109 (0, 0))) (h1 : MapIs w m1 iv rvV In64 (ringL l')) :
  Calls Tryz.prog 44 #[.pointer (some ⟨b, 0, none⟩), .int .i64 a, .int .i64 c] w fun e w' => e = .returned (.int .i64 (bdE ps a c)) ∧ w' = w.setCell ⟨b, 6, none⟩ (.int .i64 (n + 1)) := by
 have hne : m1 ≠ b := fun e => by
  obtain ⟨es, k, hm, -⟩ := h1
  rw [e, hb] at hm
  cases hm
 have hm := h1.setCell (a := ⟨b, 6, none⟩) hne (.int .i64 (n + 1))
 have HCN := Lib.hid (count_one b n hn w (blk_cell hb 6) (blk_frozen hb 6))
 have c0 : (w.setCell ⟨b, 6, none⟩ (.int .i64 (n + 1))).cell? ⟨b, 0, none⟩ = some (.map (some m1)) := (World.cell?_setCell_other _ ⟨b, 6, none⟩ ⟨b, 0, none⟩ _ (by simp)).trans (blk_cell hb 0)
 have HMM := Lib.hid hm
 have HBD : Hid ((a ∈ (ringL l').map Prod.fst → c ∈ (ringL l').map Prod.fst → bdE ps a c = if a = c then 1 else 0) ∧ ((¬ a ∈ (ringL l').map Prod.fst ∨ ¬ c ∈ (ringL l').map Prod.fst) → bdE ps a c = 5)) := by
  unfold Hid bdE
  rw [ringL_keys, hps]
  exact ⟨fun x y => if_neg fun h => by
   rcases h with h | h
   ·exact h x
   ·exact h y, fun h => if_pos h⟩
 clear h1 hb hm hn
 generalize (w.setCell ⟨b, 6, none⟩ (.int .i64 (n + 1))) = W1 at *
 go_enter Tryz.func44, Tryz.ntmps44
 go_wp2_with fail
 go_at_call 27
 refine HCN.out.mono ?_
 rintro e w1 ⟨rfl, rfl⟩
 by_cases h2 : a ∈ (ringL l').map Prod.fst
 ·by_cases h3 : c ∈ (ringL l').map Prod.fst
  ·by_cases h4 : a = c
   ·have e4 : (a == c) = true := by simpa using h4
    go_wp2_with (first
     |(at_lookup; refine wp_look_yes (k := a) (z := noRing) rfl _ _ 90 rfl 23 keyJ Tryz.underlying90 (zeroR _) m1 rfl HMM.out ha h2 rfl ?_; intro y9 _)
     |(at_lookup; refine wp_look_yes (k := c) (z := noRing) rfl _ _ 90 rfl 23 keyJ Tryz.underlying90 (zeroR _) m1 rfl HMM.out hc h3 rfl ?_; intro y9 _))
    go_ret
    exact ⟨by rw [HBD.out.1 h2 h3, if_pos h4]; rfl, rfl⟩
   ·have e4 : (a == c) = false := by simpa using h4
    go_wp2_with (first
     |(at_lookup; refine wp_look_yes (k := a) (z := noRing) rfl _ _ 90 rfl 23 keyJ Tryz.underlying90 (zeroR _) m1 rfl HMM.out ha h2 rfl ?_; intro y9 _)
     |(at_lookup; refine wp_look_yes (k := c) (z := noRing) rfl _ _ 90 rfl 23 keyJ Tryz.underlying90 (zeroR _) m1 rfl HMM.out hc h3 rfl ?_; intro y9 _))
    go_ret
    exact ⟨by rw [HBD.out.1 h2 h3, if_neg h4]; rfl, rfl⟩
  ·go_wp2_with (first
    |(at_lookup; refine wp_look_yes (k := a) (z := noRing) rfl _ _ 90 rfl 23 keyJ Tryz.underlying90 (zeroR _) m1 rfl HMM.out ha h2 rfl ?_; intro y9 _)
    |(at_lookup; refine wp_look_no (k := c) (z := noRing) rfl _ _ 90 rfl 23 keyJ Tryz.underlying90 (zeroR _) m1 rfl HMM.out hc h3 rfl ?_))
   go_ret
   exact ⟨by rw [HBD.out.2 (.inr h3)]; rfl, rfl⟩
 ·by_cases h3 : c ∈ (ringL l').map Prod.fst
  ·go_wp2_with (first
    |(at_lookup; refine wp_look_no (k := a) (z := noRing) rfl _ _ 90 rfl 23 keyJ Tryz.underlying90 (zeroR _) m1 rfl HMM.out ha h2 rfl ?_)
    |(at_lookup; refine wp_look_yes (k := c) (z := noRing) rfl _ _ 90 rfl 23 keyJ Tryz.underlying90 (zeroR _) m1 rfl HMM.out hc h3 rfl ?_; intro y9 _))
   go_ret
   exact ⟨by rw [HBD.out.2 (.inl h2)]; rfl, rfl⟩
  ·go_wp2_with (first
    |(at_lookup; refine wp_look_no (k := a) (z := noRing) rfl _ _ 90 rfl 23 keyJ Tryz.underlying90 (zeroR _) m1 rfl HMM.out ha h2 rfl ?_)
    |(at_lookup; refine wp_look_no (k := c) (z := noRing) rfl _ _ 90 rfl 23 keyJ Tryz.underlying90 (zeroR _) m1 rfl HMM.out hc h3 rfl ?_))
   go_ret
   exact ⟨by rw [HBD.out.2 (.inl h2)]; rfl, rfl⟩

section
variable {α β : Type} {T : TypeId} {ek : α → Value} {ev : β → Value} {Ok : α → Prop} {W : World} {b : Nat} {l : List (α × β)} {ops : Array Oper} {o : Oper} {a : Act} {KK : Act → World → Prop} {Q : Exit → Act → World → Prop} {E : Prop}
theorem step_lookG (t e : TypeId) (K : KeyK T ek Ok) (ht : Tryz.prog.underlying t = some (.map T e)) {z : β} (hz : ∀ u, (zeroValue e).run Tryz.prog u = .ok (ev z) u) (h : MapIs W b ek ev Ok l) {k : α} (hk : Ok k) (hgd : o.guard = none) (m x : Operand) (hop : o.op = Op.lookup t m x false)
  (hm : a.eval m = .map (some b)) (hx : a.eval x = ek k) (hK : ∀ r : β × Bool, Got l z k r → KK (a.put o.dst (ev r.1)) W) :
  if Region.wanted o (yielded ops a.tmps) = true then Oper.wp Tryz.prog o a W KK Q else E := by
 rw [if_pos (wanted_of hgd)]
 obtain ⟨r, hr, _, hrun⟩ := h.look K ht (hz W) hk
 unfold Oper.wp
 simp [execOp, hop, hm, hx, hrun, Result.andThen]
 exact hK r hr
end
section
variable {α β : Type} {T : TypeId} {ek : α → Value} {ev : β → Value} {Ok : α → Prop} {W : World} {b : Nat} {l : List (α × β)} {ops : Array Oper} {rest : List Oper} {o : Oper} {a : Act} {Q : Exit → Act → World → Prop}
theorem wp_lookY (hg : o.guard = none) (m x : Operand) (t : TypeId) (hop : o.op = Op.lookup t m x false) (e : TypeId) (K : KeyK T ek Ok) (ht : Tryz.prog.underlying t = some (.map T e)) {z : β} (hz : (zeroValue e).run Tryz.prog W = .ok (ev z) W) (b : Nat)
  (hm : a.eval m = .map (some b)) (h : MapIs W b ek ev Ok l) {k : α} (hk : Ok k) {y : β} (hy : (k, y) ∈ l) (hx : a.eval x = ek k)
  (hK : wpList Tryz.prog ops Q rest (a.put o.dst (ev y)) W) : wpList Tryz.prog ops Q (o :: rest) a W := by
 refine wpList_plain hg fun K' hK' => ?_
 obtain ⟨r, hr, _, hrun⟩ := h.look K ht hz hk
 have hry : r.1 = y := by
  rcases hr with ⟨h1, -⟩ | ⟨-, h2⟩
  ·exact absurd (List.mem_map_of_mem (f := Prod.fst) hy) h1
  ·have hn := h.nodup
   obtain ⟨i, hi, e1⟩ := List.getElem_of_mem h2
   obtain ⟨j, hj, e2⟩ := List.getElem_of_mem hy
   have h4 : (l.map Prod.fst)[i]'(by rw [List.length_map]; exact hi) = (l.map Prod.fst)[j]'(by rw [List.length_map]; exact hj) := by rw [List.getElem_map, List.getElem_map, e1, e2]
   have : i = j := (List.getElem_inj hn).1 h4
   subst this
   rw [e1] at e2
   exact congrArg Prod.snd e2
 unfold Oper.wp
 simp [execOp, hop, hm, hx, hrun, Result.andThen]
 exact hK' _ _ (by rw [hry]; exact hK)
end
noncomputable def isBd (L : List (((Int × Int) × (Int × Int)) × Int)) (c : Int) (e : (Int × Int) × (Int × Int)) : Bool := @decide ((bk e, c) ∈ L) (Classical.propDecidable _)
theorem isBd_iff {L : List (((Int × Int) × (Int × Int)) × Int)} {c : Int} {e : (Int × Int) × (Int × Int)} : isBd L c e = true ↔ (bk e, c) ∈ L := by unfold isBd; exact @decide_eq_true_iff _ (Classical.propDecidable _)
theorem got_bd {L : List (((Int × Int) × (Int × Int)) × Int)} (hn : (L.map Prod.fst).Nodup) {c : Int} (hc : c ≠ 0) {e : (Int × Int) × (Int × Int)} {r : Int × Bool} (h : Got L 0 (bk e) r) : decide (r.1 = c) = isBd L c e := by
 rw [Bool.eq_iff_iff, decide_eq_true_eq, isBd_iff]
 rcases h with ⟨h1, rfl⟩ | ⟨h1, h2⟩
 ·exact ⟨fun h => absurd h.symm hc, fun h => absurd (List.mem_map_of_mem (f := Prod.fst) h) h1⟩
 ·constructor
  ·rintro rfl; exact h2
  ·intro h3
   obtain ⟨i, hi, e1⟩ := List.getElem_of_mem h2
   obtain ⟨j, hj, e2⟩ := List.getElem_of_mem h3
   have : i = j := by
    have h4 : (L.map Prod.fst)[i]'(by rw [List.length_map]; exact hi) = (L.map Prod.fst)[j]'(by rw [List.length_map]; exact hj) := by rw [List.getElem_map, List.getElem_map, e1, e2]
    exact (List.getElem_inj hn).1 h4
   subst this
   rw [e1] at e2
   exact congrArg Prod.snd e2
def sqE (e : (Int × Int) × (Int × Int)) : Int × Int := (hiOf (sqr e.1 e.2), loOf (sqr e.1 e.2))

theorem RowI.keptQ {α : Type} {T : TypeId} {enc : α → List Value} {n : Nat} {w0 W W' : World} {v : Value} {l : List α} {row : Option Nat} (h : RowI w0 T n enc v l W) (hB : Below w0.heap.size w0 W') (hg : W.grownBy W' row) (hne : v.ownBlock = none ∨ v.ownBlock ≠ row) : RowI w0 T n enc v l W' := ⟨hB, h.2.kept hg hne⟩
theorem bd_zero {ps : List Par} {a c : Int} (h : bdE ps a c = 0) : a ∈ ps.map Par.id ∧ c ∈ ps.map Par.id ∧ a ≠ c := by
 unfold bdE at h
 split at h
 ·cases h
 ·rename_i h1
  split at h
  ·cases h
  ·rename_i h2
   exact ⟨Classical.byContradiction fun hn => h1 (.inl hn), Classical.byContradiction fun hn => h1 (.inr hn), h2⟩
noncomputable def bdL (L : List (((Int × Int) × (Int × Int)) × Int)) (r : List (Int × Int)) (c : Int) : List ((Int × Int) × (Int × Int)) := (edg r).filter (isBd L c)
set_option maxRecDepth 100000 in
set_option maxHeartbeats 8000000 in
theorem Border_any (ps : List Par) (l' : List PV) (hps : l'.map PV.par = ps) (b m1 m2 : Nat) (d s q v : Value) (n a c : Int) (hn : IntKind.i64.wrap (n + 1) = n + 1) (ha : In64 a) (hc : In64 c) (hid : ∀ x ∈ ps, x.id ≠ 0) (w0 w : World) (hq : Hold w0 [(b, #[.map (some m1), .map (some m2), d, s, q, v, .int .i64 n], 109)] w) (h1 : MapIs w m1 iv rvV In64 (ringL l')) (h2 : MapIs w m2 gv iv OkE (ownL l'))
  (hor : OwnRs w0 l' w) (hr : ∀ x ∈ l', (∀ p ∈ x.par.ring, Gd p) ∧ x.par.ring.length ≤ 128) :
  Calls Tryz.prog 19 #[.pointer (some ⟨b, 0, none⟩), .int .i64 a, .int .i64 c] w fun e w' => Below (w.setCell ⟨b, 6, none⟩ (.int .i64 (n + 1))).heap.size (w.setCell ⟨b, 6, none⟩ (.int .i64 (n + 1))) w' ∧ ((bdE ps a c ≠ 0 ∧ e = .returned (.tuple #[.slice none 0 0, .slice none 0 0, .int .i64 (bdE ps a c)])) ∨
   (bdE ps a c = 0 ∧ ∃ v1 v2, e = .returned (.tuple #[v1, v2, .int .i64 0]) ∧ ∃ x ∈ l', x.par.id = a ∧ RowI (w.setCell ⟨b, 6, none⟩ (.int .i64 (n + 1))) 61 4 encG v1 (bdL (ownL l') x.par.ring c) w' ∧ RowI (w.setCell ⟨b, 6, none⟩ (.int .i64 (n + 1))) 64 2 encW v2 ((bdL (ownL l') x.par.ring c).map sqE) w')) := by
 have hb := (hq.2.1 _ (.head _)).1
 have hne : m1 ≠ b := fun e => by
  obtain ⟨es, k, hm, -⟩ := h1
  rw [e, hb] at hm
  cases hm
 have hne2 : m2 ≠ b := fun e => by
  obtain ⟨es, k, hm, -⟩ := h2
  rw [e, hb] at hm
  cases hm
 have HF := Lib.hid (bfault_any ps l' hps b m1 m2 d s q v n a c hn ha hc w hb h1)
 have hm1 := h1.setCell (a := ⟨b, 6, none⟩) hne (.int .i64 (n + 1))
 have hm2 := h2.setCell (a := ⟨b, 6, none⟩) hne2 (.int .i64 (n + 1))
 have c0 : (w.setCell ⟨b, 6, none⟩ (.int .i64 (n + 1))).cell? ⟨b, 0, none⟩ = some (.map (some m1)) := (World.cell?_setCell_other _ ⟨b, 6, none⟩ ⟨b, 0, none⟩ _ (by simp)).trans (blk_cell hb 0)
 have c1 : (w.setCell ⟨b, 6, none⟩ (.int .i64 (n + 1))).cell? ⟨b, 1, none⟩ = some (.map (some m2)) := (World.cell?_setCell_other _ ⟨b, 6, none⟩ ⟨b, 1, none⟩ _ (by simp)).trans (blk_cell hb 1)
 have hq1 := hq.set 6 (.int .i64 (n + 1))
 have hor1 := hor.set hb (show (109 : Nat) ≠ 28 by decide) 6 (.int .i64 (n + 1))
 have hr1 : ∀ x ∈ l', Pts (w.setCell ⟨b, 6, none⟩ (.int .i64 (n + 1))) (w.setCell ⟨b, 6, none⟩ (.int .i64 (n + 1))).heap.size x.A x.par.ring := fun x hx => (show Row w0 (.slice x.A x.par.ring.length x.cap) x.par.ring _ from ⟨hq1.1, hor1 x hx⟩).whole.1
 have HRR := Lib.hid hr
 clear hr hor hor1 hq1 hq
 have HM1 := Lib.hid hm1
 have HM2 := Lib.hid hm2
 have HR1 := Lib.hid hr1
 have HKY := Lib.hid (ringL_keys l')
 clear h1 h2 hb hm1 hm2 hr1 hn hne hne2
 generalize (w.setCell ⟨b, 6, none⟩ (.int .i64 (n + 1))) = W1 at *
 go_enter Tryz.func19, Tryz.ntmps19
 go_wp2_with fail
 go_at_call 44
 refine HF.out.mono ?_
 rintro e w1 ⟨rfl, rfl⟩
 by_cases hz : bdE ps a c = 0
 ·have HZ := Lib.hid hz
  obtain ⟨h1, h2, h3⟩ := bd_zero hz
  rw [hz]
  obtain ⟨x, hx, hxa⟩ : ∃ x ∈ l', x.par.id = a := by
   rw [← hps] at h1
   obtain ⟨y, hy, e⟩ := List.mem_map.1 h1
   obtain ⟨x, hx, rfl⟩ := List.mem_map.1 hy
   exact ⟨x, hx, e⟩
  have HC0 : Hid (c ≠ 0) := by
   obtain ⟨y, hy, e⟩ := List.mem_map.1 h2
   rw [← e]
   exact hid y hy
  have HXL : Hid ((a, x) ∈ ringL l') := by
   unfold ringL
   exact List.mem_map.2 ⟨x, hx, by rw [hxa]⟩
  have HXM := Lib.hid hx
  have HXA := Lib.hid hxa
  have hgx := HRR.out x hx
  have HED := Lib.hid (edgesQ_any x.par.ring x.A x.cap (by omega) w1 (HR1.out x hx))
  clear hz h1 h2 h3 hx hxa hid
  go_upto_region 6 with (fail)
  have HOKa : Hid (In64 a) := ha
  go_wp2_with (first
   |(at_lookup; refine wp_lookY (k := a) (y := x) (z := noRing) rfl _ _ 90 rfl 23 keyJ Tryz.underlying90 (zeroR _) m1 rfl HM1.out ha HXL.out rfl ?_)
   |fail)
  go_at_call 45
  refine HED.out.mono ?_
  rintro e W2 ⟨v0, rfl, HV1⟩
  obtain ⟨A0, cv0, rfl, hit, -⟩ := HV1.items
  have HI := Lib.hid hit
  have HB2 := Lib.hid HV1.1
  have HM2b := Lib.hid (HM2.out.on HV1.1 HM2.out.lt)
  have hbl : b < w1.heap.size := by
   rcases Nat.lt_or_ge b w1.heap.size with h | h
   ·exact h
   ·exfalso
    unfold World.cell? at c1
    rw [Array.getElem?_eq_none h] at c1
    simp at c1
  have HC1 : Hid (∀ W, Below W2.heap.size W2 W → W.cell? ⟨b, 1, none⟩ = some (.map (some m2))) := fun W hb => by
   have h1 := HV1.1.cell (p := ⟨b, 1, none⟩) hbl
   have h2 := hb.cell (p := ⟨b, 1, none⟩) (show b < W2.heap.size by have := HV1.1.size; omega)
   rw [h2, h1]
   exact c1
  have HGE := Lib.hid (fun e he => edg_gd (e := e) hgx.1 he)
  have HESL : Hid ((edg x.par.ring).length ≤ 128) := by unfold Hid; rw [edg_len]; exact hgx.2
  have HND := Lib.hid HM2.out.nodup
  generalize hes : edg x.par.ring = es at *
  have HES := Lib.hid hes
  have HV00 : RowI W2 61 4 encG (.slice none 0 0) ((es.take 0).filter (isBd (ownL l') c)) W2 := RowI.nil (Below.refl _ _)
  have HV20 : RowI W2 64 2 encW (.slice none 0 0) (((es.take 0).filter (isBd (ownL l') c)).map sqE) W2 := RowI.nil (Below.refl _ _)
  clear HV1 hit c0 c1 HM1 HM2 HR1 HKY HED HXL hgx hes hbl HF HRR
  go_wp2_with fail
  go_loopg [10, 11, 31] es.length (fun g v1 v2 i wr => ∃ j : Nat, j ≤ es.length ∧ g = es.length - j ∧ i = .int .i64 j ∧ RowI W2 61 4 encG v1 ((es.take j).filter (isBd (ownL l') c)) wr ∧ RowI W2 64 2 encW v2 (((es.take j).filter (isBd (ownL l') c)).map sqE) wr)
  case atStart => exact ⟨0, Nat.zero_le _, rfl, rfl, HV00, HV20⟩
  case round =>
   clear HV00 HV20
   obtain ⟨j, hj, hgj, rfl, hv1, hv2⟩ := hrel
   have HGJ := Lib.hid hgj
   clear hgj
   by_cases hlt : j < es.length
   ·obtain ⟨ad3, rfl, hadb, hc0, hcc⟩ := Items.at kindG.len (HI.out.on hv1.1) hlt
    have d0 := hc0 _ (by decide) rfl
    have d1 := hcc 1 _ (by decide) (by decide) rfl
    have d2 := hcc 2 _ (by decide) (by decide) rfl
    have d3 := hcc 3 _ (by decide) (by decide) rfl
    have b3 : (0 : Int) ≤ (j : Int) := by omega
    have b4 : (j : Int) < (es.length : Int) := by omega
    have b5 : (es.length : Int) ≤ 128 := by have := HESL.out; omega
    have hgy := HGE.out _ (List.getElem_mem hlt)
    have HOK : Hid (OkE (bk es[j])) := okE_of hgy.2 hgy.1
    have HSQ : Hid (gdL [es[j].1, es[j].2] = true) := gdL_two.2 hgy
    have HTK : Hid (es.take (j + 1) = es.take j ++ [es[j]]) := List.take_succ_eq_append_getElem hlt
    have HLN : Hid (((es.take j).filter (isBd (ownL l') c)).length ≤ 128) := by
     have h1 := List.length_filter_le (isBd (ownL l') c) (es.take j)
     have h2 := List.length_take_le j es
     have := HESL.out
     unfold Hid
     omega
    clear hc0 hcc hgy
    generalize es[j] = y at *
    generalize hfs : (es.take j).filter (isBd (ownL l') c) = fs at *
    have HFS := Lib.hid hfs
    clear hfs
    go_upto_region 9 with (fail)
    have hb5 := (Below.refl wr.heap.size wr).alloc (Nat.le_refl _) (.cells #[.int .i64 y.1.1, .int .i64 y.1.2, .int .i64 y.2.1, .int .i64 y.2.2] 61 (0, 0))
    have hq5 := (show Hold W2 [] wr from ⟨hv1.1, fun _ h => (by cases h), List.Pairwise.nil⟩).new #[.int .i64 y.1.1, .int .i64 y.1.2, .int .i64 y.2.1, .int .i64 y.2.2] 61
    have hv15 := hv1.on hb5
    have hv25 := hv2.on hb5
    have hne5 := hv1.row_ne (Nat.le_refl wr.heap.size)
    clear d0 d1 d2 d3 hv1 hv2 hb5 hadb
    generalize (World.alloc _ _) = W5 at hq5 hv15 hv25 ⊢
    generalize wr.heap.size = ge at hq5 hne5 ⊢
    have HQ5 := Lib.hid hq5.drew
    have HV15 := Lib.hid hv15.drew
    have HV25 := Lib.hid hv25.drew
    have HNE5 := Lib.hid hne5
    clear hq5 hv15 hv25 hne5
    refine wp_region_held_drew (S := fun W => W.cell? ⟨b, 1, none⟩ = some (.map (some m2)) ∧ W.cell? ⟨ge, 0, none⟩ = some (.int .i64 y.1.1) ∧ W.cell? ⟨ge, 1, none⟩ = some (.int .i64 y.1.2) ∧ W.cell? ⟨ge, 2, none⟩ = some (.int .i64 y.2.1) ∧ W.cell? ⟨ge, 3, none⟩ = some (.int .i64 y.2.2)) (by kernel_rfl) ?_ (fun hHeld => ?_)
    ·(try dsimp only)
     exact ⟨HC1.out _ HV15.out.1, HQ5.out.q4 (.head _)⟩
    refine tZ 0 ?_; refine tZ 1 ?_; refine tZ 2 ?_; refine tZ 3 ?_; refine tZ 4 ?_; refine tZ 7 ?_
    refine wpAnyH_ready (rs := [5]) (by decide +kernel) (by simp) ?_
    refine AllReadyH.cons rfl (fun K hK => ?_) AllReadyH.nil
    (try simp only [jA, jB, jC])
    go_simp
    (go_at_call 38; refine (turnedQ_any y _).mono ?_; rintro e' W6 ⟨rfl, hB⟩; have hq6 := HQ5.out.on hB; have hv16 := HV15.out.on hB; have hv26 := HV25.out.on hB)
    refine hK.out _ _ ?_ (fun hHeld => ?_)
    focus ((try dsimp only); exact ⟨HC1.out _ hv16.1, hq6.q4 (.head _)⟩; done)
    clear hK K
    (try simp only [Act.put, jA, jB, jC, jD, jE, jF])
    refine wpAnyH_ready (rs := [6]) (by decide +kernel) (by simp) ?_
    refine AllReadyH.cons rfl (fun K hK => ?_) AllReadyH.nil
    refine step_lookG (z := 0) (k := bk y) 91 3 keyE Tryz.underlying91 zeroI (HM2b.out.on hv16.1 HM2b.out.lt) HOK.out (by rfl) _ _ (by rfl) (by rfl) (by rfl) ?_; intro r hgot; have HBD := Lib.hid (got_bd HND.out HC0.out hgot); dsimp only [iv]
    refine hK.out _ _ ?_ (fun hHeld => ?_)
    focus ((try dsimp only); exact hHeld; done)
    clear hK K
    (try simp only [Act.put, jA, jB, jC, jD, jE, jF])
    refine tZ 8 ?_
    refine wpAnyH_done (by decide +kernel) ?_ _
    have HQ6 := Lib.hid hq6
    have HV16 := Lib.hid hv16
    have HV26 := Lib.hid hv26
    clear hq6 hv16 hv26 hgot hHeld HQ5 HV15 HV25
    by_cases hbd : isBd (ownL l') c y = true
    ·have hrc : r.1 = c := by rw [← HBD.out] at hbd; exact of_decide_eq_true hbd
     have e1 : (r.1 == c) = true := by simpa using hrc
     obtain ⟨k0, k1, k2, k3⟩ := HQ6.out.q4 (.head _)
     have HBY := Lib.hid hbd
     clear hbd hrc
     go_wp2_with fail
     go_at_call 46
     refine (Square_good y.1 y.2 HSQ.out _).mono ?_
     rintro e' W7 ⟨rfl, hB⟩
     clear k0 k1 k2 k3
     have hq7 := (HQ6.out.on hB).new #[.int .i64 (hiOf (sqr y.1 y.2)), .int .u64 (loOf (sqr y.1 y.2))] 64
     have hb7 := (hB.alloc hB.size (Obj.cells #[.int .i64 (hiOf (sqr y.1 y.2)), .int .u64 (loOf (sqr y.1 y.2))] 64 (0, 0)))
     have hv17 := HV16.out.on hb7
     have hv27 := HV26.out.on hb7
     have hng := (HV26.out.on hB).row_ne (Nat.le_refl W7.heap.size)
     clear hb7 hB HQ6 HV16 HV26
     go_upto_region 11 with (fail)
     generalize (World.alloc _ _) = W8 at hq7 hv17 hv27 ⊢
     generalize W7.heap.size = gs at hq7 hng ⊢
     have HQ8 := Lib.hid hq7.drew
     have HR1 := Lib.hid hv17.drew
     have HR2 := Lib.hid hv27.drew
     have HNG := Lib.hid hng
     clear hq7 hv17 hv27 hng
     have HNX : Hid ((es.take (j + 1)).filter (isBd (ownL l') c) = fs ++ [y]) := by
      unfold Hid
      rw [HTK.out, List.filter_append, HFS.out]
      simp [HBY.out]
     have HNY : Hid (((es.take (j + 1)).filter (isBd (ownL l') c)).map sqE = fs.map sqE ++ [sqE y]) := by
      unfold Hid
      rw [HNX.out, List.map_append]; rfl
     refine wp_region_held_drew (S := (fun W => (W.cell? ⟨ge, 0, none⟩ = some (.int .i64 y.1.1) ∧ W.cell? ⟨ge, 1, none⟩ = some (.int .i64 y.1.2) ∧ W.cell? ⟨ge, 2, none⟩ = some (.int .i64 y.2.1) ∧ W.cell? ⟨ge, 3, none⟩ = some (.int .i64 y.2.2)) ∧ W.cell? ⟨gs, 0, none⟩ = some (.int .i64 (hiOf (sqr y.1 y.2))) ∧ W.cell? ⟨gs, 1, none⟩ = some (.int .u64 (loOf (sqr y.1 y.2))))) (by kernel_rfl) ?_ (fun hHeld => ?_)
     ·(try dsimp only)
      exact ⟨HQ8.out.q4 (.tail _ (.head _)), HQ8.out.pt (.head _)⟩
     generalize (World.drew _) = Wd at HQ8 HR1 HR2 hHeld ⊢
     refine tZ 0 ?_; refine tZ 1 ?_; refine tZ 4 ?_; refine tZ 5 ?_
     refine wpAnyH_ready (rs := [2, 6]) (by decide +kernel) (by simp) ?_
     refine AllReadyH.cons rfl (fun K hK => ?_) (AllReadyH.cons rfl (fun K hK => ?_) AllReadyH.nil)
     ·have hb1 := (Below.refl Wd.heap.size Wd).alloc (Nat.le_refl _) (Obj.cells #[.int .i64 y.1.1, .int .i64 y.1.2, .int .i64 y.2.1, .int .i64 y.2.2] 61 (0, 0))
      have q1 := HQ8.out.on hb1
      have a1 := HR1.out.on hb1
      have c1 := HR2.out.on hb1
      have t1 := heap_alloc_new Wd (Obj.cells #[.int .i64 y.1.1, .int .i64 y.1.2, .int .i64 y.2.1, .int .i64 y.2.2] 61 (0, 0))
      (try simp only [jA, jB, jC])
      go_simp
      refine hK.out _ _ ?_ (fun hHeld => ?_)
      focus ((try dsimp only); exact ⟨q1.q4 (.tail _ (.head _)), q1.pt (.head _)⟩; done)
      clear hK K
      (try simp only [Act.put, jA, jB, jC, jD, jE, jF])
      clear hb1
      generalize (World.alloc _ _) = X1 at q1 a1 c1 t1  hHeld ⊢
      generalize Wd.heap.size = g21 at t1 ⊢
      refine wpAnyH_ready (rs := [3, 6]) (by decide +kernel) (by simp) ?_
      refine AllReadyH.cons rfl (fun K hK => ?_) (AllReadyH.cons rfl (fun K hK => ?_) AllReadyH.nil)
      ·refine step_append_itemsG kindG Tryz.underlying51 a1 [y] (some ⟨g21, 0, none⟩) 1 (items_one t1 rfl (blk_lt t1)) (fun e => by cases e) (by have := HLN.out; unfold maxLen; simp; omega) (by have := HLN.out; simp; omega) rfl _ _ (by rfl) (by rfl) (by rfl) ?_
       rintro v1n X2 a2 hg2
       have q2 := Hold.grow q1 a2.1 hg2 (fun e he => by rcases List.mem_cons.1 he with rfl | he; exact row_block a1.2 (q1.2.1 _ (.head _)).1 (show (64 : Nat) ≠ 61 by decide); rcases List.mem_cons.1 he with rfl | he; exact HNE5.out; cases he)
       have c2 := RowI.keptQ c1 a2.1 hg2 (rows_apart c1.2 a1.2 (show (64 : Nat) ≠ 61 by decide))
       refine hK.out _ _ ?_ (fun hHeld => ?_)
       focus ((try dsimp only); exact ⟨q2.q4 (.tail _ (.head _)), q2.pt (.head _)⟩; done)
       clear hK K
       (try simp only [Act.put, jA, jB, jC, jD, jE, jF])
       refine wpAnyH_ready (rs := [6]) (by decide +kernel) (by simp) ?_
       refine AllReadyH.cons rfl (fun K hK => ?_) AllReadyH.nil
       have hb3 := (Below.refl X2.heap.size X2).alloc (Nat.le_refl _) (Obj.cells #[.int .i64 (hiOf (sqr y.1 y.2)), .int .u64 (loOf (sqr y.1 y.2))] 64 (0, 0))
       have q3 := q2.on hb3
       have a3 := a2.on hb3
       have c3 := c2.on hb3
       have t3 := heap_alloc_new X2 (Obj.cells #[.int .i64 (hiOf (sqr y.1 y.2)), .int .u64 (loOf (sqr y.1 y.2))] 64 (0, 0))
       (try simp only [jA, jB, jC])
       go_simp
       refine hK.out _ _ ?_ (fun hHeld => ?_)
       focus ((try dsimp only); exact ⟨q3.q4 (.tail _ (.head _)), q3.pt (.head _)⟩; done)
       clear hK K
       (try simp only [Act.put, jA, jB, jC, jD, jE, jF])
       clear hb3
       generalize (World.alloc _ _) = X3 at q3 a3 c3 t3  hHeld ⊢
       generalize X2.heap.size = g23 at t3 ⊢
       refine wpAnyH_ready (rs := [7]) (by decide +kernel) (by simp) ?_
       refine AllReadyH.cons rfl (fun K hK => ?_) AllReadyH.nil
       refine step_append_itemsG kindW Tryz.underlying56 c3 [sqE y] (some ⟨g23, 0, none⟩) 1 (items_one t3 rfl (blk_lt t3)) (fun e => by cases e) (by have := HLN.out; unfold maxLen; simp; omega) (by have := HLN.out; simp; omega) rfl _ _ (by rfl) (by rfl) (by rfl) ?_
       rintro v2n X4 c4 hg4
       have q4 := Hold.grow q3 c4.1 hg4 (fun e he => by rcases List.mem_cons.1 he with rfl | he; exact HNG.out; rcases List.mem_cons.1 he with rfl | he; exact row_block c3.2 (q3.2.1 _ (.tail _ (.head _))).1 (show (61 : Nat) ≠ 64 by decide); cases he)
       have a4 := RowI.keptQ a3 c4.1 hg4 (rows_apart a3.2 c3.2 (show (61 : Nat) ≠ 64 by decide))
       refine hK.out _ _ ?_ (fun hHeld => ?_)
       focus ((try dsimp only); exact ⟨q4.q4 (.tail _ (.head _)), q4.pt (.head _)⟩; done)
       clear hK K
       (try simp only [Act.put, jA, jB, jC, jD, jE, jF])
       refine tZ 8 ?_; refine tZ 9 ?_
       refine wpAnyH_done (by decide +kernel) ?_ _
       have HE1 := Lib.hid a4
       have HE2 := Lib.hid c4
       go_wp2_with fail
       go_roundg (es.length - (j + 1))
       case measure => have := HGJ.out; omega
       case rel => exact ⟨j + 1, by omega, rfl, by go_num, by rw [HNX.out]; exact HE1.out, by rw [HNY.out]; exact HE2.out⟩
      ·have hb2 := (Below.refl X1.heap.size X1).alloc (Nat.le_refl _) (Obj.cells #[.int .i64 (hiOf (sqr y.1 y.2)), .int .u64 (loOf (sqr y.1 y.2))] 64 (0, 0))
       have q2 := q1.on hb2
       have a2 := a1.on hb2
       have c2 := c1.on hb2
       have t2 := heap_alloc_new X1 (Obj.cells #[.int .i64 (hiOf (sqr y.1 y.2)), .int .u64 (loOf (sqr y.1 y.2))] 64 (0, 0))
       have u2 := (hb2.block _ (blk_lt t1)).trans t1
       (try simp only [jA, jB, jC])
       go_simp
       refine hK.out _ _ ?_ (fun hHeld => ?_)
       focus ((try dsimp only); exact ⟨q2.q4 (.tail _ (.head _)), q2.pt (.head _)⟩; done)
       clear hK K
       (try simp only [Act.put, jA, jB, jC, jD, jE, jF])
       clear hb2
       generalize (World.alloc _ _) = X2 at q2 a2 c2 t2 u2 hHeld ⊢
       generalize X1.heap.size = g22 at t2 ⊢
       refine wpAnyH_ready (rs := [3]) (by decide +kernel) (by simp) ?_
       refine AllReadyH.cons rfl (fun K hK => ?_) AllReadyH.nil
       refine step_append_itemsG kindG Tryz.underlying51 a2 [y] (some ⟨g21, 0, none⟩) 1 (items_one u2 rfl (blk_lt u2)) (fun e => by cases e) (by have := HLN.out; unfold maxLen; simp; omega) (by have := HLN.out; simp; omega) rfl _ _ (by rfl) (by rfl) (by rfl) ?_
       rintro v1n X3 a3 hg3
       have q3 := Hold.grow q2 a3.1 hg3 (fun e he => by rcases List.mem_cons.1 he with rfl | he; exact row_block a2.2 (q2.2.1 _ (.head _)).1 (show (64 : Nat) ≠ 61 by decide); rcases List.mem_cons.1 he with rfl | he; exact HNE5.out; cases he)
       have c3 := RowI.keptQ c2 a3.1 hg3 (rows_apart c2.2 a2.2 (show (64 : Nat) ≠ 61 by decide))
       have u3 := (hg3.block _ (blk_lt t2) (fun e' => row_block a2.2 t2 (show (64 : Nat) ≠ 61 by decide) e'.symm)).trans t2
       refine hK.out _ _ ?_ (fun hHeld => ?_)
       focus ((try dsimp only); exact ⟨q3.q4 (.tail _ (.head _)), q3.pt (.head _)⟩; done)
       clear hK K
       (try simp only [Act.put, jA, jB, jC, jD, jE, jF])
       refine wpAnyH_ready (rs := [7]) (by decide +kernel) (by simp) ?_
       refine AllReadyH.cons rfl (fun K hK => ?_) AllReadyH.nil
       refine step_append_itemsG kindW Tryz.underlying56 c3 [sqE y] (some ⟨g22, 0, none⟩) 1 (items_one u3 rfl (blk_lt u3)) (fun e => by cases e) (by have := HLN.out; unfold maxLen; simp; omega) (by have := HLN.out; simp; omega) rfl _ _ (by rfl) (by rfl) (by rfl) ?_
       rintro v2n X4 c4 hg4
       have q4 := Hold.grow q3 c4.1 hg4 (fun e he => by rcases List.mem_cons.1 he with rfl | he; exact HNG.out; rcases List.mem_cons.1 he with rfl | he; exact row_block c3.2 (q3.2.1 _ (.tail _ (.head _))).1 (show (61 : Nat) ≠ 64 by decide); cases he)
       have a4 := RowI.keptQ a3 c4.1 hg4 (rows_apart a3.2 c3.2 (show (61 : Nat) ≠ 64 by decide))
       refine hK.out _ _ ?_ (fun hHeld => ?_)
       focus ((try dsimp only); exact ⟨q4.q4 (.tail _ (.head _)), q4.pt (.head _)⟩; done)
       clear hK K
       (try simp only [Act.put, jA, jB, jC, jD, jE, jF])
       refine tZ 8 ?_; refine tZ 9 ?_
       refine wpAnyH_done (by decide +kernel) ?_ _
       have HE1 := Lib.hid a4
       have HE2 := Lib.hid c4
       go_wp2_with fail
       go_roundg (es.length - (j + 1))
       case measure => have := HGJ.out; omega
       case rel => exact ⟨j + 1, by omega, rfl, by go_num, by rw [HNX.out]; exact HE1.out, by rw [HNY.out]; exact HE2.out⟩
     ·have hb1 := (Below.refl Wd.heap.size Wd).alloc (Nat.le_refl _) (Obj.cells #[.int .i64 (hiOf (sqr y.1 y.2)), .int .u64 (loOf (sqr y.1 y.2))] 64 (0, 0))
      have q1 := HQ8.out.on hb1
      have a1 := HR1.out.on hb1
      have c1 := HR2.out.on hb1
      have t1 := heap_alloc_new Wd (Obj.cells #[.int .i64 (hiOf (sqr y.1 y.2)), .int .u64 (loOf (sqr y.1 y.2))] 64 (0, 0))
      (try simp only [jA, jB, jC])
      go_simp
      refine hK.out _ _ ?_ (fun hHeld => ?_)
      focus ((try dsimp only); exact ⟨q1.q4 (.tail _ (.head _)), q1.pt (.head _)⟩; done)
      clear hK K
      (try simp only [Act.put, jA, jB, jC, jD, jE, jF])
      clear hb1
      generalize (World.alloc _ _) = X1 at q1 a1 c1 t1  hHeld ⊢
      generalize Wd.heap.size = g21 at t1 ⊢
      refine wpAnyH_ready (rs := [2]) (by decide +kernel) (by simp) ?_
      refine AllReadyH.cons rfl (fun K hK => ?_) AllReadyH.nil
      have hb2 := (Below.refl X1.heap.size X1).alloc (Nat.le_refl _) (Obj.cells #[.int .i64 y.1.1, .int .i64 y.1.2, .int .i64 y.2.1, .int .i64 y.2.2] 61 (0, 0))
      have q2 := q1.on hb2
      have a2 := a1.on hb2
      have c2 := c1.on hb2
      have t2 := heap_alloc_new X1 (Obj.cells #[.int .i64 y.1.1, .int .i64 y.1.2, .int .i64 y.2.1, .int .i64 y.2.2] 61 (0, 0))
      have u2 := (hb2.block _ (blk_lt t1)).trans t1
      (try simp only [jA, jB, jC])
      go_simp
      refine hK.out _ _ ?_ (fun hHeld => ?_)
      focus ((try dsimp only); exact ⟨q2.q4 (.tail _ (.head _)), q2.pt (.head _)⟩; done)
      clear hK K
      (try simp only [Act.put, jA, jB, jC, jD, jE, jF])
      clear hb2
      generalize (World.alloc _ _) = X2 at q2 a2 c2 t2 u2 hHeld ⊢
      generalize X1.heap.size = g22 at t2 ⊢
      refine wpAnyH_ready (rs := [3]) (by decide +kernel) (by simp) ?_
      refine AllReadyH.cons rfl (fun K hK => ?_) AllReadyH.nil
      refine step_append_itemsG kindG Tryz.underlying51 a2 [y] (some ⟨g22, 0, none⟩) 1 (items_one t2 rfl (blk_lt t2)) (fun e => by cases e) (by have := HLN.out; unfold maxLen; simp; omega) (by have := HLN.out; simp; omega) rfl _ _ (by rfl) (by rfl) (by rfl) ?_
      rintro v1n X3 a3 hg3
      have q3 := Hold.grow q2 a3.1 hg3 (fun e he => by rcases List.mem_cons.1 he with rfl | he; exact row_block a2.2 (q2.2.1 _ (.head _)).1 (show (64 : Nat) ≠ 61 by decide); rcases List.mem_cons.1 he with rfl | he; exact HNE5.out; cases he)
      have c3 := RowI.keptQ c2 a3.1 hg3 (rows_apart c2.2 a2.2 (show (64 : Nat) ≠ 61 by decide))
      have u3 := (hg3.block _ (blk_lt u2) (fun e' => row_block a2.2 u2 (show (64 : Nat) ≠ 61 by decide) e'.symm)).trans u2
      refine hK.out _ _ ?_ (fun hHeld => ?_)
      focus ((try dsimp only); exact ⟨q3.q4 (.tail _ (.head _)), q3.pt (.head _)⟩; done)
      clear hK K
      (try simp only [Act.put, jA, jB, jC, jD, jE, jF])
      refine wpAnyH_ready (rs := [7]) (by decide +kernel) (by simp) ?_
      refine AllReadyH.cons rfl (fun K hK => ?_) AllReadyH.nil
      refine step_append_itemsG kindW Tryz.underlying56 c3 [sqE y] (some ⟨g21, 0, none⟩) 1 (items_one u3 rfl (blk_lt u3)) (fun e => by cases e) (by have := HLN.out; unfold maxLen; simp; omega) (by have := HLN.out; simp; omega) rfl _ _ (by rfl) (by rfl) (by rfl) ?_
      rintro v2n X4 c4 hg4
      have q4 := Hold.grow q3 c4.1 hg4 (fun e he => by rcases List.mem_cons.1 he with rfl | he; exact HNG.out; rcases List.mem_cons.1 he with rfl | he; exact row_block c3.2 (q3.2.1 _ (.tail _ (.head _))).1 (show (61 : Nat) ≠ 64 by decide); cases he)
      have a4 := RowI.keptQ a3 c4.1 hg4 (rows_apart a3.2 c3.2 (show (61 : Nat) ≠ 64 by decide))
      refine hK.out _ _ ?_ (fun hHeld => ?_)
      focus ((try dsimp only); exact ⟨q4.q4 (.tail _ (.head _)), q4.pt (.head _)⟩; done)
      clear hK K
      (try simp only [Act.put, jA, jB, jC, jD, jE, jF])
      refine tZ 8 ?_; refine tZ 9 ?_
      refine wpAnyH_done (by decide +kernel) ?_ _
      have HE1 := Lib.hid a4
      have HE2 := Lib.hid c4
      go_wp2_with fail
      go_roundg (es.length - (j + 1))
      case measure => have := HGJ.out; omega
      case rel => exact ⟨j + 1, by omega, rfl, by go_num, by rw [HNX.out]; exact HE1.out, by rw [HNY.out]; exact HE2.out⟩
    ·have hrc : ¬ r.1 = c := fun h => hbd (by rw [← HBD.out]; exact decide_eq_true h)
     have e1 : (r.1 == c) = false := by simpa using hrc
     have HNX : Hid ((es.take (j + 1)).filter (isBd (ownL l') c) = fs) := by
      unfold Hid
      rw [HTK.out, List.filter_append, HFS.out]
      simp [(Bool.not_eq_true _).mp hbd]
     clear hbd hrc
     go_wp2_with fail
     go_roundg (es.length - (j + 1))
     case measure => have := HGJ.out; omega
     case rel => exact ⟨j + 1, by omega, rfl, by go_num, by rw [HNX.out]; exact HV16.out, by rw [HNX.out]; exact HV26.out⟩
   ·obtain rfl : j = es.length := by omega
    rw [List.take_length] at hv1 hv2
    have b0 : ¬ ((es.length : Int) < (es.length : Int)) := by omega
    have HE1 := Lib.hid (RowI.base hv1 HB2.out)
    have HE2 := Lib.hid (RowI.base hv2 HB2.out)
    have HBB := Lib.hid (HB2.out.trans (hv1.1.mono HB2.out.size))
    obtain ⟨A1, k1, rfl, -, -⟩ := hv1.items
    obtain ⟨A2, k2, rfl, -, -⟩ := hv2.items
    clear hv1 hv2
    go_wp2
    refine bodyPost_ret (v := .tuple #[.slice A1 (es.filter (isBd (ownL l') c)).length k1, .slice A2 ((es.filter (isBd (ownL l') c)).map sqE).length k2, .int .i64 0]) ?_ rfl ⟨HBB.out, .inr ⟨HZ.out, _, _, rfl, x, HXM.out, HXA.out, by unfold bdL; rw [HES.out]; exact HE1.out, by unfold bdL; rw [HES.out]; exact HE2.out⟩⟩
    simp [results, Tryz.results19, go_sem]
 ·have HZ := Lib.hid hz
  have e0 : (bdE ps a c == 0) = false := by simpa using hz
  clear hid
  go_wp2
  refine bodyPost_ret (v := .tuple #[.slice none 0 0, .slice none 0 0, .int .i64 (bdE ps a c)]) ?_ rfl ⟨Below.refl _ _, .inl ⟨HZ.out, rfl⟩⟩
  simp [results, Tryz.results19, go_sem]
end Go.Proofs.YtoabooljgojoiaaGreat
