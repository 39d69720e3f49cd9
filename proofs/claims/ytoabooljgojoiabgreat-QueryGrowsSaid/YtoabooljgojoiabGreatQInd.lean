/- The cells of a ring in an index, and what is looked for. -/
import Derived.Test.YtoabooljgojoiabGreatQIdx
import Derived.Test.YtoabooljgojoiabGreatGridC
import Derived.Test.YtoabooljgojoiabGreatRefChk
namespace Go.Proofs.YtoabooljgojoiabGreat
open Go.RowKit
noncomputable def cellsQ (x : PV) : List (Int × Int) := if chE x.par.ring = 0 then spL (awL x.par.ring).1 (awL x.par.ring).2 else []
theorem cellsQ_good {x : PV} (h : chE x.par.ring = 0) : cellsQ x = spL (awL x.par.ring).1 (awL x.par.ring).2 := if_pos h
theorem spL_okP {L H : Int × Int} (he : wnE L H = 0) {c : Int × Int} (hc : c ∈ spL L H) : OkP c := by
 obtain ⟨hg, h1, h2⟩ := wnE_zero.1 he
 have gL := gd_iff.1 (two_good hg).1
 have gH := gd_iff.1 (two_good hg).2
 obtain ⟨⟨a1, a2⟩, a3, a4⟩ := (mem_spL h1 h2).1 hc
 unfold Gd at gL gH
 unfold cdv at a1 a2 a3 a4
 unfold OkP In64
 omega
theorem spL_nodup (L H : Int × Int) : (spL L H).Nodup := (spL_lex L H).imp fun {a b} h e => by
 subst e
 unfold LexP at h
 omega
theorem spL_few {L H : Int × Int} (he : wnE L H = 0) : (spL L H).length ≤ 81 := by
 have hg := (wnE_zero.1 he).1
 exact spL_len_le (gd_iff.1 (two_good hg).1) (gd_iff.1 (two_good hg).2)
theorem cellsQ_ok (x : PV) : (cellsQ x).Nodup ∧ (∀ c ∈ cellsQ x, OkP c) ∧ (cellsQ x).length ≤ 1000000 := by
 by_cases hc : chE x.par.ring = 0
 ·rw [cellsQ_good hc]
  have := spL_few (aw_ok hc)
  exact ⟨spL_nodup _ _, fun c h => spL_okP (aw_ok hc) h, by omega⟩
 ·have e : cellsQ x = [] := if_neg hc
  rw [e]
  exact ⟨List.Pairwise.nil, fun c h => absurd h List.not_mem_nil, by simp⟩
theorem cellsQ_calls (x : PV) (hn : x.par.ring.length ≤ maxLen) (W : World) (hr : Pts W W.heap.size x.A x.par.ring) : Calls Tryz.prog 87 #[rvV x] W fun e w' => ∃ v u, e = .returned (.tuple #[v, u]) ∧ RowI W 95 2 encP v (cellsQ x) w' := by
 by_cases hc : chE x.par.ring = 0
 ·rw [cellsQ_good hc]
  exact (cells_good x.par.ring x.A x.cap hc W hr).mono fun e w' ⟨v, h1, h2⟩ => ⟨v, _, h1, h2⟩
 ·have e : cellsQ x = [] := if_neg hc
  rw [e]
  exact (cells_bad x.par.ring x.A x.cap hn hc W hr).mono fun e w' ⟨h1, h2⟩ => ⟨_, _, h1, RowI.nil h2⟩
def ringAt (l' : List PV) (id : Int) : PV := (l'.find? fun x => x.par.id == id).getD noRing
theorem ringAt_mem {l' : List PV} (hs : l'.Pairwise fun a b => a.par.id < b.par.id) {x : PV} (hx : x ∈ l') : ringAt l' x.par.id = x := by
 unfold ringAt
 cases e : l'.find? fun y => y.par.id == x.par.id with
 |none => exact absurd (List.find?_eq_none.1 e x hx) (by simp)
 |some y =>
  have h1 := List.find?_some e
  have h2 := List.mem_of_find?_eq_some e
  have h3 : y.par.id = x.par.id := by simpa using h1
  obtain ⟨i, hi, e1⟩ := List.getElem_of_mem h2
  obtain ⟨j, hj, e2⟩ := List.getElem_of_mem hx
  have hp := List.pairwise_iff_getElem.1 hs
  rcases Nat.lt_trichotomy i j with h | h | h
  ·have := hp i j hi hj h
   rw [e1, e2] at this
   omega
  ·subst h
   exact e1.symm.trans e2
  ·have := hp j i hj hi h
   rw [e1, e2] at this
   omega
theorem ringAt_got {l' : List PV} (hs : l'.Pairwise fun a b => a.par.id < b.par.id) (id : Int) (r : PV × Bool) (h : Got (ringL l') noRing id r) : r.1 = ringAt l' id := by
 rcases h with ⟨h1, rfl⟩ | ⟨-, h2⟩
 ·unfold ringAt
  have : (l'.find? fun x => x.par.id == id) = none := List.find?_eq_none.2 fun x hx e => h1 (by
   unfold ringL
   rw [List.map_map, List.mem_map]
   exact ⟨x, hx, by simpa using e⟩)
  rw [this]; rfl
 ·unfold ringL at h2
  obtain ⟨x, hx, e⟩ := List.mem_map.1 h2
  have e1 : x.par.id = id := congrArg Prod.fst e
  have e2 : x = r.1 := congrArg Prod.snd e
  rw [← e2, ← e1, ringAt_mem hs hx]
theorem ringAt_or (l' : List PV) (id : Int) : ringAt l' id ∈ l' ∨ ringAt l' id = noRing := by
 unfold ringAt
 cases e : l'.find? fun y => y.par.id == id with
 |none => exact .inr rfl
 |some y => exact .inl (List.mem_of_find?_eq_some e)
theorem RingsOk.ringAt {W : World} {b m1 : Nat} {l' : List PV} {cf : PV → List (Int × Int)} (h : RingsOk W b m1 l' cf) (id : Int) : Pts W W.heap.size (ringAt l' id).A (ringAt l' id).par.ring ∧ (Go.Proofs.YtoabooljgojoiabGreat.ringAt l' id).par.ring.length ≤ maxLen := by
 rcases ringAt_or l' id with h1 | h1
 ·exact ⟨(h.pts _ h1).1, (h.pts _ h1).2.1⟩
 ·rw [h1]
  exact ⟨fun hp => absurd hp (Nat.lt_irrefl 0), Nat.zero_le _⟩
theorem idsIn_few {cf : PV → List (Int × Int)} {l' : List PV} (c : Int × Int) : (idsIn cf (ringL l') c).length ≤ l'.length := by
 unfold idsIn ringL
 rw [List.length_map]
 exact Nat.le_trans (List.length_filter_le _ _) (Nat.le_of_eq (List.length_map ..))
theorem idsIn_in64 {W : World} {b m1 : Nat} {l' : List PV} {cf : PV → List (Int × Int)} (h : RingsOk W b m1 l' cf) {c : Int × Int} {z : Int} (hz : z ∈ idsIn cf (ringL l') c) : In64 z := by
 obtain ⟨x, hx, rfl, -⟩ := mem_idsIn.1 hz
 obtain ⟨es, k, -, -, -, hok⟩ := h.map
 exact hok (x.par.id, x) (by unfold ringL; exact List.mem_map.2 ⟨x, hx, rfl⟩)
theorem flat_few {cf : PV → List (Int × Int)} {l' : List PV} (hl : l'.length ≤ 1000) : ∀ cs : List (Int × Int), (cs.flatMap (idsIn cf (ringL l'))).length ≤ 1000 * cs.length
 |[] => Nat.le_refl _
 |c :: cs => by
  have h1 := idsIn_few (cf := cf) (l' := l') c
  have h2 := flat_few (cf := cf) hl cs
  rw [List.flatMap_cons, List.length_append, List.length_cons]
  omega
noncomputable def locL (l' : List PV) (p : Int × Int) : List Int := if gd p = true then (l'.filter fun x => decide (0 ≤ side x.par.ring p)).map fun x => x.par.id else []
theorem loc_found {l' : List PV} (hs : l'.Pairwise fun a b => a.par.id < b.par.id) (hc : ∀ x ∈ l', chE x.par.ring = 0) {p : Int × Int} (hp : gd p = true) :
  (tidyL ([cdP p].flatMap (idsIn cellsQ (ringL l')))).filter (fun id => decide (0 ≤ sdV (ringAt l' id).par.ring p)) = locL l' p := by
 have hsd : ∀ x ∈ l', sdV x.par.ring p = side x.par.ring p := fun x hx => by
  have h := chE_zero.1 (hc x hx)
  have e : sdE x.par.ring p = 0 := by
   unfold sdE
   rw [if_neg (by rw [hc x hx]; simp), if_pos hp]
  unfold sdV
  rw [if_pos e, sideW_side h.2]
 rw [show locL l' p = _ from if_pos hp]
 refine found_eq hs (cf := cellsQ) (F := idsIn cellsQ (ringL l')) (fun c => List.Perm.refl _) (p := fun id => decide (0 ≤ sdV (ringAt l' id).par.ring p)) (q := fun x => decide (0 ≤ side x.par.ring p)) (fun x hx => by
  show decide (0 ≤ sdV (ringAt l' x.par.id).par.ring p) = _
  rw [ringAt_mem hs hx, hsd x hx]) (fun x hx hq => ?_)
 refine ⟨cdP p, List.mem_singleton.2 rfl, ?_⟩
 rw [cellsQ_good (hc x hx)]
 exact mem_spL_of (side_in (aw_len (hc x hx)).1 (of_decide_eq_true hq))
end Go.Proofs.YtoabooljgojoiabGreat

namespace Go.Proofs.YtoabooljgojoiabGreat
open Go.RowKit
theorem blk_ne {W : World} {b g : Nat} {C D : Array Value} {T U : TypeId} {x y : Nat × Nat} (h1 : W.heap[b]? = some (.cells C T x)) (h2 : W.heap[g]? = some (.cells D U y)) (hT : T ≠ U) : b ≠ g := fun e => by
 rw [e, h2] at h1
 injection h1 with h1
 injection h1 with _ h1 _
 exact hT h1.symm
set_option maxRecDepth 100000 in
set_option maxHeartbeats 4000000 in
theorem Locate_any (b m1 m2 : Nat) (n : Int) (hn : IntKind.i64.wrap (n + 1) = n + 1) (l' : List PV) (hs : l'.Pairwise fun a b => a.par.id < b.par.id) (hch : ∀ x ∈ l', chE x.par.ring = 0) (p : Int × Int) (w : World) (hr : RingsOk w b m1 l' cellsQ) (h : IdxS w b m1 m2 n (idsIn cellsQ (ringL l'))) :
  Calls Tryz.prog 18 #[.pointer (some ⟨b, 0, none⟩), .agg #[.int .i64 p.1, .int .i64 p.2]] w fun e W => w.grownBy W (some b) ∧ IdxS W b m1 m2 (n + 1) (idsIn cellsQ (ringL l')) ∧ ∃ A cap, e = .returned (.tuple #[.slice A (locL l' p).length cap, .int .i64 (atE p)]) ∧ Items W W.heap.size A encN (locL l' p) ∧ ∀ ad, A = some ad → some b ≠ some ad.block := by
 have hq := (Hold.refl w).new #[.int .i64 p.1, .int .i64 p.2] 28
 have hbx := hq.1
 have hi := h.on hbx
 obtain ⟨d0, q0, v0, hb0⟩ := hi.block
 obtain ⟨dw, qw, vw, hbw⟩ := h.block
 have HLB : Hid (b < w.heap.size) := blk_lt hbw
 have HCN := Lib.hid (count_one b n hn _ (blk_cell hb0 6) (blk_frozen hb0 6))
 have hgc := set_grown (w.alloc (Obj.cells #[.int .i64 p.1, .int .i64 p.2] 28 (0, 0))) b 6 (.int .i64 (n + 1))
 have HG1 := Lib.hid ((grew_of hbx (some b)).trans hgc)
 have HI1 := Lib.hid hi.count
 have hp1 : ((w.alloc (Obj.cells #[.int .i64 p.1, .int .i64 p.2] 28 (0, 0))).setCell ⟨b, 6, none⟩ (.int .i64 (n + 1))).heap[w.heap.size]? = some (.cells #[.int .i64 p.1, .int .i64 p.2] 28 (0, 0)) := (hgc.block _ (blk_lt (heap_alloc_new w _)) (fun e => by have := Option.some.inj e; have := HLB.out; omega)).trans (heap_alloc_new w _)
 have HP1 := Lib.hid hp1
 have HR := Lib.hid hr
 have HSS := Lib.hid hs
 have HCH := Lib.hid hch
 have HNB : Hid (w.heap.size ≠ b) := by have := HLB.out; unfold Hid; omega
 clear hq hbx hi hb0 hbw hgc hp1 h hr hs hch
 go_enter Tryz.func18, Tryz.ntmps18
 go_upto_region 1 with (fail)
 generalize (World.alloc _ _) = W0 at *
 obtain ⟨g0, hg0⟩ : ∃ g, w.heap.size = g := ⟨_, rfl⟩
 rw [hg0] at HP1 HNB ⊢
 clear hg0
 go_wp2_with fail
 go_at_call 13
 refine HCN.out.mono ?_
 rintro e w1 ⟨rfl, rfl⟩
 generalize (World.setCell W0 ⟨b, 6, none⟩ (.int .i64 (n + 1))) = W1 at *
 have c0 := blk_cell HP1.out 0
 have c1 := blk_cell HP1.out 1
 have HAT := Lib.hid (At_any p W1)
 clear HCN
 go_wp2_with fail
 go_at_call 40
 refine HAT.out.mono ?_
 rintro e w2 ⟨rfl, hB⟩
 have HB := Lib.hid hB
 clear hB c0 c1
 cases hp : gd p
 ·obtain ⟨h1, h2⟩ := at_bad hp
  have h3 := Lib.hid h1
  have h4 := Lib.hid h2
  have h5 : Hid (locL l' p = []) := by unfold Hid locL; rw [hp]; rfl
  rw [h1, h2]
  clear h1 h2 hp
  go_upto_region 5 with (fail)
  have hB5 := HB.out.alloc HB.out.size (Obj.cells #[.int .i64 0, .int .i64 0] 95 (0, 0))
  have HIE := Lib.hid (HI1.out.on hB5)
  have HGE := Lib.hid (HG1.out.trans (grew_of hB5 _))
  clear hB5
  generalize (World.alloc _ _) = W5 at HIE HGE ⊢
  go_wp2_with fail
  refine bodyPost_ret (v := .tuple #[.slice none 0 0, .int .i64 3]) ?_ rfl ⟨HGE.out, HIE.out, none, 0, by rw [h4.out, h5.out]; rfl, by rw [h5.out]; exact Items.nil _ _ _ _, fun _ h => (nomatch h)⟩
  simp [results, Tryz.results18, go_sem]
 ·obtain ⟨h1, h2⟩ := at_good hp
  have h4 := Lib.hid h2
  have h5 : Hid ((tidyL ([cdP p].flatMap (idsIn cellsQ (ringL l')))).filter (fun id => decide (0 ≤ sdV (ringAt l' id).par.ring p)) = locL l' p) := loc_found HSS.out HCH.out hp
  have HWP : Hid (OkP (cdP p)) := by
   have h := gd_iff.1 hp
   unfold Gd at h
   unfold Hid OkP In64 cdP cdv
   dsimp only
   omega
  rw [h1, h2]
  clear h1 h2 hp
  go_upto_region 7 with (fail)
  have hB5 := HB.out.alloc HB.out.size (Obj.cells #[.int .i64 (cdP p).1, .int .i64 (cdP p).2] 95 (0, 0))
  have hq5 := heap_alloc_new w2 (Obj.cells #[.int .i64 (cdP p).1, .int .i64 (cdP p).2] 95 (0, 0))
  have HI5 := Lib.hid (HI1.out.on hB5)
  have HG5 := Lib.hid (HG1.out.trans (grew_of hB5 _))
  have HP5 := Lib.hid ((hB5.block _ (blk_lt HP1.out)).trans HP1.out)
  clear hB5
  generalize (World.alloc _ _) = W5 at HI5 HG5 HP5 hq5 ⊢
  generalize w2.heap.size = g5 at hq5 ⊢
  have c0 := blk_cell hq5 0
  have c1 := blk_cell hq5 1
  have hB6 := (Below.refl W5.heap.size W5).alloc (Nat.le_refl _) (Obj.cells #[.int .i64 (cdP p).1, .int .i64 (cdP p).2] 95 (0, 0))
  have hq6 := heap_alloc_new W5 (Obj.cells #[.int .i64 (cdP p).1, .int .i64 (cdP p).2] 95 (0, 0))
  have HI6 := Lib.hid (HI5.out.on hB6)
  have HG6 := Lib.hid (HG5.out.trans (grew_of hB6 _))
  have HP6 := Lib.hid ((hB6.block _ (blk_lt HP5.out)).trans HP5.out)
  have HQ6 := Lib.hid hq6
  have HL6 : Hid (b < W5.heap.size) := Nat.lt_of_lt_of_le HLB.out HG5.out.size
  clear hB6 hq6
  generalize hW6 : W5.alloc (Obj.cells #[.int .i64 (cdP p).1, .int .i64 (cdP p).2] 95 (0, 0)) = W6 at HI6 HG6 HP6 HQ6
  have HF := Lib.hid (foundL_any b m1 m2 (n + 1) l' [cdP p] (some ⟨W5.heap.size, 0, none⟩) 1 (idsIn cellsQ (ringL l')) (fun id => decide (0 ≤ sdV (ringAt l' id).par.ring p)) (.pointer (some ⟨g0, 0, none⟩)) W6 (Nat.lt_of_lt_of_le HLB.out HG6.out.size)
   (fun W hW => once_any b m1 m2 (n + 1) l' cellsQ W (HR.out.but (HG6.out.trans (grew_of hW _))) (HI6.out.on hW))
   (items_one HQ6.out rfl (blk_lt HQ6.out)) (fun ad e e2 => by
    obtain rfl := Option.some.inj e
    have := Option.some.inj e2
    have := HL6.out
    simp at *
    omega) (HR.out.but HG6.out).map (fun e => HR.out.ne (Option.some.inj e))
   (by have := flat_few (cf := cellsQ) HR.out.few [cdP p]; simp at this ⊢; omega) (by simp) (fun c hc => by obtain rfl := List.mem_singleton.1 hc; exact HWP.out) (fun c _ z hz => idsIn_in64 HR.out hz) (ringAt l') (ringAt_got HSS.out)
   (fun W id hW hid => locF_any _ _ _ p g0 (HR.out.ringAt id).2 W ((HR.out.but (HG6.out.trans hW)).ringAt id).1 (blk_cell ((hW.block g0 (blk_lt HP6.out) (fun e => HNB.out (Option.some.inj e))).trans HP6.out) 0) (blk_cell ((hW.block g0 (blk_lt HP6.out) (fun e => HNB.out (Option.some.inj e))).trans HP6.out) 1)))
  rw [h5.out] at HF
  subst hW6
  go_wp2_with fail
  go_at_call 15
  refine HF.out.mono ?_
  rintro e w7 ⟨_, rfl, hg7, hi7, A, cap, rfl, hit⟩
  have HG7 := Lib.hid (HG6.out.trans hg7)
  have HI7 := Lib.hid hi7
  have HT7 := Lib.hid hit
  clear hg7 hi7 hit c0 c1
  go_wp2_with fail
  refine bodyPost_ret (v := .tuple #[.slice A (locL l' p).length cap, .int .i64 0]) ?_ rfl ⟨HG7.out, .inr HI7.out, A, cap, by rw [h4.out], HT7.out⟩
  simp [results, Tryz.results18, go_sem]
end Go.Proofs.YtoabooljgojoiabGreat

namespace Go.Proofs.YtoabooljgojoiabGreat
open Go.RowKit
theorem at_high {m n l a b M : Int} (hm : 0 < m) (h0 : 0 ≤ n) (h1 : n ≤ m) (ha : a ≤ M) (hb : b ≤ M) (h : m * l ≤ m * a + n * (b - a)) : l ≤ M := by
 have h2 := Int.mul_le_mul_of_nonneg_left ha (show 0 ≤ m - n by omega)
 have h3 := Int.mul_le_mul_of_nonneg_left hb h0
 rw [Int.sub_mul, Int.sub_mul] at h2
 rw [Int.mul_sub] at h
 exact Int.le_of_mul_le_mul_left (show m * l ≤ m * M by omega) hm
theorem at_low {m n l a b M : Int} (hm : 0 < m) (h0 : 0 ≤ n) (h1 : n ≤ m) (ha : M ≤ a) (hb : M ≤ b) (h : m * a + n * (b - a) ≤ m * l) : M ≤ l := by
 have h2 := Int.mul_le_mul_of_nonneg_left ha (show 0 ≤ m - n by omega)
 have h3 := Int.mul_le_mul_of_nonneg_left hb h0
 rw [Int.sub_mul, Int.sub_mul] at h2
 rw [Int.mul_sub] at h
 exact Int.le_of_mul_le_mul_left (show m * M ≤ m * l by omega) hm
theorem win_cover {L H : Int × Int} {r : List (Int × Int)} (hw : wnE L H = 0) (hc : chE r = 0) (hm : Met L H r) : ∃ c ∈ spL L H, c ∈ spL (awL r).1 (awL r).2 := by
 obtain ⟨-, hL1, hL2⟩ := wnE_zero.1 hw
 have h0 := (aw_len hc).1
 rcases hm with h | ⟨i, hi, k, m, hm0, hk0, hkm, a1, a2, a3, a4⟩
 ·exact ⟨cdP L, mem_spL_of ⟨Int.le_refl _, hL1, Int.le_refl _, hL2⟩, mem_spL_of (side_in h0 h)⟩
 ·have hin : ∀ i, InW (awL r).1 (awL r).2 (nx r i) := fun i => by
   rw [← nx_mod]; exact awT_in r (Nat.mod_lt _ h0)
  obtain ⟨b1, b2, b3, b4⟩ := hin i
  obtain ⟨c1, c2, c3, c4⟩ := hin (i + 1)
  have e1 := at_high hm0 hk0 hkm b2 c2 a1
  have e2 := at_low hm0 hk0 hkm b1 c1 a2
  have e3 := at_high hm0 hk0 hkm b4 c4 a3
  have e4 := at_low hm0 hk0 hkm b3 c3 a4
  refine ⟨cdP (max L.1 (awL r).1.1, max L.2 (awL r).1.2), mem_spL_of ⟨?_, ?_, ?_, ?_⟩, mem_spL_of ⟨?_, ?_, ?_, ?_⟩⟩ <;> dsimp only <;> omega
noncomputable def winL (l' : List PV) (L H : Int × Int) : List Int := if wnE L H = 0 then (l'.filter fun x => metV L H x.par.ring).map fun x => x.par.id else []
theorem win_found {l' : List PV} (hs : l'.Pairwise fun a b => a.par.id < b.par.id) (hc : ∀ x ∈ l', chE x.par.ring = 0) {L H : Int × Int} (hw : wnE L H = 0) :
  (tidyL ((spanL L H).flatMap (idsIn cellsQ (ringL l')))).filter (fun id => meV L H (ringAt l' id).par.ring) = winL l' L H := by
 have hsd : ∀ x ∈ l', meV L H x.par.ring = metV L H x.par.ring := fun x hx => by
  unfold meV meE
  rw [if_neg (show ¬ wnE L H ≠ 0 by omega), if_pos (hc x hx)]
 rw [show winL l' L H = _ from if_pos hw, spanL_good hw]
 refine found_eq hs (cf := cellsQ) (F := idsIn cellsQ (ringL l')) (fun c => List.Perm.refl _) (p := fun id => meV L H (ringAt l' id).par.ring) (q := fun x => metV L H x.par.ring) (fun x hx => by
  show meV L H (ringAt l' x.par.id).par.ring = _
  rw [ringAt_mem hs hx, hsd x hx]) (fun x hx hq => ?_)
 rw [cellsQ_good (hc x hx)]
 exact win_cover hw (hc x hx) (metV_iff.1 hq)
theorem rowI_block {α : Type} {w0 W : World} {T : TypeId} {k : Nat} {enc : α → List Value} {ad : Addr} {len cap : Nat} {l : List α} (h : RowI w0 T k enc (.slice (some ad) len cap) l W) : w0.heap.size ≤ ad.block := by
 rcases h.2.2 with ⟨e1, _⟩ | ⟨g, c, cur, e1, hg, _⟩
 ·cases e1
 ·injection e1 with e3
  obtain rfl := Option.some.inj e3
  exact hg
set_option maxRecDepth 100000 in
set_option maxHeartbeats 4000000 in
theorem Window_any (b m1 m2 : Nat) (n : Int) (hn : IntKind.i64.wrap (n + 1) = n + 1) (l' : List PV) (hs : l'.Pairwise fun a b => a.par.id < b.par.id) (hch : ∀ x ∈ l', chE x.par.ring = 0) (L H : Int × Int) (w : World) (hr : RingsOk w b m1 l' cellsQ) (h : IdxS w b m1 m2 n (idsIn cellsQ (ringL l'))) :
  Calls Tryz.prog 6 #[.pointer (some ⟨b, 0, none⟩), .agg #[.int .i64 L.1, .int .i64 L.2, .int .i64 H.1, .int .i64 H.2]] w fun e W => w.grownBy W (some b) ∧ IdxS W b m1 m2 (n + 1) (idsIn cellsQ (ringL l')) ∧ ∃ A cap, e = .returned (.tuple #[.slice A (winL l' L H).length cap, .int .i64 (wnE L H)]) ∧ Items W W.heap.size A encN (winL l' L H) ∧ ∀ ad, A = some ad → some b ≠ some ad.block := by
 have hq := (Hold.refl w).new #[.int .i64 L.1, .int .i64 L.2, .int .i64 H.1, .int .i64 H.2] 30
 have hbx := hq.1
 have hi := h.on hbx
 obtain ⟨d0, q0, v0, hb0⟩ := hi.block
 obtain ⟨dw, qw, vw, hbw⟩ := h.block
 have HLB : Hid (b < w.heap.size) := blk_lt hbw
 have HCN := Lib.hid (count_one b n hn _ (blk_cell hb0 6) (blk_frozen hb0 6))
 have hgc := set_grown (w.alloc (Obj.cells #[.int .i64 L.1, .int .i64 L.2, .int .i64 H.1, .int .i64 H.2] 30 (0, 0))) b 6 (.int .i64 (n + 1))
 have HG1 := Lib.hid ((grew_of hbx (some b)).trans hgc)
 have HI1 := Lib.hid hi.count
 have hp1 : ((w.alloc (Obj.cells #[.int .i64 L.1, .int .i64 L.2, .int .i64 H.1, .int .i64 H.2] 30 (0, 0))).setCell ⟨b, 6, none⟩ (.int .i64 (n + 1))).heap[w.heap.size]? = some (.cells #[.int .i64 L.1, .int .i64 L.2, .int .i64 H.1, .int .i64 H.2] 30 (0, 0)) := (hgc.block _ (blk_lt (heap_alloc_new w _)) (fun e => by have := Option.some.inj e; have := HLB.out; omega)).trans (heap_alloc_new w _)
 have HP1 := Lib.hid hp1
 have HR := Lib.hid hr
 have HSS := Lib.hid hs
 have HCH := Lib.hid hch
 have HNB : Hid (w.heap.size ≠ b) := by have := HLB.out; unfold Hid; omega
 clear hq hbx hi hb0 hbw hgc hp1 h hr hs hch
 go_enter Tryz.func6, Tryz.ntmps6
 go_upto_region 1 with (fail)
 generalize (World.alloc _ _) = W0 at *
 obtain ⟨g0, hg0⟩ : ∃ g, w.heap.size = g := ⟨_, rfl⟩
 rw [hg0] at HP1 HNB ⊢
 clear hg0
 go_wp2_with fail
 go_at_call 13
 refine HCN.out.mono ?_
 rintro e w1 ⟨rfl, rfl⟩
 generalize (World.setCell W0 ⟨b, 6, none⟩ (.int .i64 (n + 1))) = W1 at *
 have c0 := blk_cell HP1.out 0
 have c1 := blk_cell HP1.out 1
 have c2 := blk_cell HP1.out 2
 have c3 := blk_cell HP1.out 3
 have HAT := Lib.hid (span_any L H W1)
 have HL1 : Hid (b < W1.heap.size) := Nat.lt_of_lt_of_le HLB.out HG1.out.size
 clear HCN
 go_wp2_with fail
 go_at_call 14
 refine HAT.out.mono ?_
 rintro e w2 ⟨v, rfl, hv⟩
 have HB := Lib.hid hv.1
 have HIE := Lib.hid (HI1.out.on HB.out)
 have HGE := Lib.hid (HG1.out.trans (grew_of HB.out _))
 have HPE := Lib.hid ((HB.out.block _ (blk_lt HP1.out)).trans HP1.out)
 obtain ⟨Ac, cc, rfl, hit, -⟩ := hv.items
 have HIT := Lib.hid hit
 have HNE : Hid (∀ ad, Ac = some ad → some b ≠ some ad.block) := fun ad e e2 => by
  subst e
  have h1 := rowI_block hv
  have h2 := Option.some.inj e2
  have := HL1.out
  omega
 clear hv hit c0 c1 c2 c3
 by_cases he : wnE L H = 0
 ·have h5 := win_found HSS.out HCH.out he
  have hok : ∀ c ∈ spanL L H, OkP c := fun c hc => by
   rw [spanL_good he] at hc
   exact spL_okP he hc
  have hfew : (spanL L H).length ≤ 81 := by
   rw [spanL_good he]; exact spL_few he
  have HE := Lib.hid he
  have HF := Lib.hid (foundW_any b m1 m2 (n + 1) l' (spanL L H) Ac cc (idsIn cellsQ (ringL l')) (fun id => meV L H (ringAt l' id).par.ring) (.pointer (some ⟨g0, 0, none⟩)) w2 (Nat.lt_of_lt_of_le HLB.out HGE.out.size)
   (fun W hW => once_any b m1 m2 (n + 1) l' cellsQ W (HR.out.but (HGE.out.trans (grew_of hW _))) (HIE.out.on hW))
   HIT.out HNE.out (HR.out.but HGE.out).map (fun e => HR.out.ne (Option.some.inj e))
   (by have := flat_few (cf := cellsQ) HR.out.few (spanL L H); omega) (by omega) hok (fun c _ z hz => idsIn_in64 HR.out hz) (ringAt l') (ringAt_got HSS.out)
   (fun W id hW hid => by
    have hp := (hW.block g0 (blk_lt HPE.out) (fun e => HNB.out (Option.some.inj e))).trans HPE.out
    exact winF_any _ _ _ L H g0 (HR.out.ringAt id).2 W ((HR.out.but (HGE.out.trans hW)).ringAt id).1 (blk_cell hp 0) (blk_cell hp 1) (blk_cell hp 2) (blk_cell hp 3)))
  rw [h5] at HF
  rw [he]
  clear he hok hfew h5
  go_wp2_with fail
  go_at_call 15
  refine HF.out.mono ?_
  rintro e w7 ⟨_, rfl, hg7, hi7, A, cap, rfl, hit⟩
  have HG7 := Lib.hid (HGE.out.trans hg7)
  have HI7 := Lib.hid hi7
  have HT7 := Lib.hid hit
  clear hg7 hi7 hit
  go_wp2_with fail
  refine bodyPost_ret (v := .tuple #[.slice A (winL l' L H).length cap, .int .i64 0]) ?_ rfl ⟨HG7.out, .inr HI7.out, A, cap, by rw [HE.out], HT7.out⟩
  simp [results, Tryz.results6, go_sem]
 ·have h5 : Hid (winL l' L H = []) := if_neg he
  have e0 : (wnE L H == 0) = false := by simpa using he
  generalize hk : wnE L H = k at *
  have HK := Lib.hid hk
  clear hk he
  go_wp2_with fail
  refine bodyPost_ret (v := .tuple #[.slice none 0 0, .int .i64 k]) ?_ rfl ⟨HGE.out, HIE.out, none, 0, by rw [h5.out, HK.out]; rfl, by rw [h5.out]; exact Items.nil _ _ _ _, fun _ h => (nomatch h)⟩
  simp [results, Tryz.results6, go_sem]
end Go.Proofs.YtoabooljgojoiabGreat

namespace Go.Proofs.YtoabooljgojoiabGreat
open Go.RowKit
theorem own_pts {w W : World} {x : PV} (h : W.ownsRow w.heap.size 28 2 (.slice x.A x.par.ring.length x.cap) x.par.ring.length (flatP x.par.ring)) : Pts W W.heap.size x.A x.par.ring := by
 have hc := fun g (hg : (Value.slice x.A x.par.ring.length x.cap).ownBlock = some g) => h.cells hg
 rcases h.2 with ⟨e1, h0⟩ | ⟨g, cap, cur, e1, hb, hg, -⟩
 ·exact fun hp => absurd hp (by omega)
 ·rw [e1] at hc
  injection e1 with e1
  rw [e1]
  refine fun _ => ⟨_, rfl, blk_lt hg, fun k p hp => ?_⟩
  have hc := hc g rfl
  obtain ⟨g0, g1⟩ := flatP_get x.par.ring k
  rw [hp] at g0 g1
  exact ⟨hc _ _ g0, by rw [Go.Deep.add_add]; exact hc _ _ g1⟩
theorem idx_made {w W : World} {b m1 m2 : Nat} {ps : List Par} {l' : List PV} (h : IdxAt w W b m1 m2 ps l') (hb : W.heap[b]? = some (.cells #[.map (some m1), .map (some m2), .int .u32 0, .int .i32 0, .int .u32 0, .map none, .int .i64 0] 78 (0, 0))) (hl : l'.length ≤ 1000) (hr : ∀ x ∈ l', x.par.ring.length ≤ maxLen) :
  RingsOk W b m1 l' cellsQ ∧ IdxS W b m1 m2 0 (idsIn cellsQ (ringL l')) := by
 refine ⟨⟨h.rings, fun x hx => ⟨own_pts (h.rows x hx), hr x hx, fun ad e e2 => ?_⟩, fun e => ?_, hl, fun x _ => cellsQ_ok x, fun x hx W hp => cellsQ_calls x (hr x hx) W hp⟩, .inl ⟨_, _, hb⟩⟩
 ·rcases (h.rows x hx).2 with ⟨e1, _⟩ | ⟨g, cap, cur, e1, _, hg, _⟩
  ·rw [e] at e1; cases e1
  ·rw [e] at e1
   injection e1 with e3
   obtain rfl := Option.some.inj e3
   have e4 : b = g := Option.some.inj e2
   rw [← e4, hb] at hg
   injection hg with hg
   injection hg with _ hg _
   exact absurd hg (by decide)
 ·obtain ⟨es, c, hm, -⟩ := h.rings
  rw [e, hb] at hm
  cases hm
end Go.Proofs.YtoabooljgojoiabGreat

namespace Go.Proofs.YtoabooljgojoiabGreat
open Go.RowKit
theorem no_own : OwnOk ⟨#[]⟩ := ⟨fun j hj => absurd hj (Nat.not_lt_zero j), by decide⟩
theorem q_id : idB 7 = true := by decide
def ansV (g : Nat) : PV := ⟨⟨7, gvR, ⟨#[]⟩⟩, some ⟨g, 0, none⟩, 4⟩
theorem ans_at (w : World) (g0 g1 : Nat) (h0 : w.heap[g0]? = some (.cells (flatP gvR).toArray 28 (0, 0))) (h1 : w.heap[g1]? = some (.cells #[.int .i64 7, .slice (some ⟨g0, 0, none⟩) 4 4, .string ⟨#[]⟩] 42 (0, 0))) :
  PlanAt w gvR (some ⟨g0, 0, none⟩) 4 [ansV g0] (some ⟨g1, 0, none⟩) 1 where
 prs := ⟨items_one h1 rfl (blk_lt h1), fun x hx => by
  rw [List.mem_singleton.1 hx]
  exact ⟨pts_of h0 (blk_lt h0), ⟨fun e => (by cases e), (show 4 * 16 ≤ 140737488355328 by decide)⟩⟩⟩
 out := pts_of h0 (blk_lt h0)
 nil := fun e => by cases e
 room := by decide
 caps := ⟨by decide, fun x hx => by rw [List.mem_singleton.1 hx]; exact Nat.le_refl _⟩
theorem ans_chk (g : Nat) : chkB gvR [ansV g] = true := chkB_iff.2 (one_checks gv_norm q_id no_own)
theorem ans_one {l' : List PV} {g : Nat} (h : l'.map PV.par = [ansV g].map PV.par) : ∃ x, l' = [x] ∧ x.par = ⟨7, gvR, ⟨#[]⟩⟩ := by
 cases l' with
 |nil => exact absurd (congrArg List.length h) (by simp)
 |cons x t =>
  cases t with
  |nil => exact ⟨x, rfl, (List.cons.inj h).1⟩
  |cons y t => exact absurd (congrArg List.length h) (by simp)
theorem gv_side1 : side gvR (1, 1) = 1 := by
 have hk : ∀ i, i < 4 → onB (nx gvR i) (nx gvR (i + 1)) (1, 1) = false := by decide +kernel
 rw [side_off (fun i hi h => by have h1 := hk i hi; rw [onB_iff.2 h] at h1; cases h1)]
 rw [if_pos]
 decide +kernel
theorem ans_loc {x : PV} (hx : x.par = ⟨7, gvR, ⟨#[]⟩⟩) : locL [x] (1, 1) = [7] := by
 have h1 : gd (1, 1) = true := by decide +kernel
 unfold locL
 rw [if_pos h1]
 simp [hx, gv_side1]
set_option maxRecDepth 100000 in
set_option maxHeartbeats 2000000 in
theorem query_answers (w : World) :
  Calls Tryz.prog 8 #[] w fun e w' => e = .returned (.bool true) ∧ Below w.heap.size w w' := by
 have a0 := heap_alloc_new w (Obj.cells (flatP gvR).toArray 28 (0, 0))
 have b0 := (Below.refl w.heap.size w).alloc (Nat.le_refl _) (Obj.cells (flatP gvR).toArray 28 (0, 0))
 have a1 := heap_alloc_new (w.alloc (Obj.cells (flatP gvR).toArray 28 (0, 0))) (Obj.cells #[.int .i64 7, .slice (some ⟨w.heap.size, 0, none⟩) 4 4, .string ⟨#[]⟩] 42 (0, 0))
 have a2 := box_alloc a0 (Obj.cells #[.int .i64 7, .slice (some ⟨w.heap.size, 0, none⟩) 4 4, .string ⟨#[]⟩] 42 (0, 0))
 have b1 := b0.alloc b0.size (Obj.cells #[.int .i64 7, .slice (some ⟨w.heap.size, 0, none⟩) 4 4, .string ⟨#[]⟩] 42 (0, 0))
 have hsz : (w.alloc (Obj.cells (flatP gvR).toArray 28 (0, 0))).heap.size = w.heap.size + 1 := by simp
 rw [hsz] at a1
 have HNEW := Lib.hid (New_any gvR (some ⟨w.heap.size, 0, none⟩) 4 [ansV w.heap.size] (some ⟨w.heap.size + 1, 0, none⟩) 1 (show 1 ≤ 1000000 by decide) (by decide) (fun x hx => by rw [List.mem_singleton.1 hx]; exact (show 0 ≤ maxLen from Nat.zero_le _)) _ (ans_at _ _ _ a2 a1))
 have HB2 := Lib.hid b1
 clear a0 b0 a1 a2 b1 hsz
 go_enter Tryz.func8, Tryz.ntmps8
 go_wp2_with fail
 go_at_call 9
 refine HNEW.out.mono ?_
 rintro e W3 (⟨h, -⟩ | ⟨-, b, rfl, m1, m2, ⟨l', hix⟩, hb⟩)
 ·rw [ans_chk] at h; cases h
 ·obtain ⟨x, rfl, hx⟩ := ans_one hix.par
  have hxr : x.par.ring = gvR := by rw [hx]
  obtain ⟨hro, hst⟩ := idx_made hix hb (by simp) (fun y hy => by rw [List.mem_singleton.1 hy, hxr]; decide)
  have hlo := Locate_any b m1 m2 0 (by decide) [x] (List.pairwise_singleton _ _) (fun y hy => by rw [List.mem_singleton.1 hy, hxr]; exact gv_ch) (1, 1) W3 hro hst
  rw [ans_loc hx, show atE (1, 1) = 0 by decide +kernel] at hlo
  have HLO := Lib.hid hlo
  have HB3 := Lib.hid (HB2.out.trans (hix.below.mono HB2.out.size))
  have HBB : Hid (w.heap.size ≤ b) := Nat.le_trans HB2.out.size hix.own.1
  clear hix hb hro hst hlo hx hxr HNEW
  go_wp2_with fail
  go_at_call 18
  refine HLO.out.mono ?_
  rintro e W4 ⟨hg, -, A, cap, rfl, hit, -⟩
  have HB4 := Lib.hid (HB3.out.grown hg HB3.out.size (fun k e => by obtain rfl := Option.some.inj e; exact HBB.out))
  obtain ⟨ad, rfl, had, hc0, -⟩ := Items.at kindN.len hit (show 0 < [(7 : Int)].length by decide)
  have c0 : W4.cell? ad = some (.int .i64 7) := hc0 _ (by decide) rfl
  clear hc0 hg hit had HLO
  go_wp2_with fail
  refine bodyPost_ret (v := .bool true) ?_ rfl ⟨rfl, HB4.out⟩
  simp [results, Tryz.results8, go_sem]
end Go.Proofs.YtoabooljgojoiabGreat

namespace Go.Proofs.YtoabooljgojoiabGreat
open Go.RowKit
theorem OwnRs.under {w w5 W : World} {l : List PV} (h : OwnRs w5 l W) (hb : Below w.heap.size w w5) : OwnRs w l W := fun x hx => ⟨(h x hx).1, (h x hx).2.imp id (fun ⟨g, cap, cur, e, hg, r⟩ => ⟨g, cap, cur, e, Nat.le_trans hb.size hg, r⟩)⟩
def IndexAt (w : World) (o : List (Int × Int)) (l : List PV) (e : Ending) (w' : World) : Prop :=
 (e = .returned (.tuple #[.pointer none, .bool true]) ∧ Below w.heap.size w w') ∨
  ∃ b m1 m2 l', e = .returned (.tuple #[.pointer (some ⟨b, 0, none⟩), .bool true]) ∧ Below w.heap.size w w' ∧ chkB o l = true ∧ (l.length ≤ 80 ∧ cornN o l l.length ≤ 300) ∧ l'.map PV.par = l.map PV.par ∧ w.heap.size ≤ b ∧ RingsOk w' b m1 l' cellsQ ∧ IdxS w' b m1 m2 0 (idsIn cellsQ (ringL l')) ∧ MapIs w' m2 gv iv OkE (ownL l') ∧ OwnRs w l' w'
set_option maxRecDepth 100000 in
set_option maxHeartbeats 4000000 in
theorem qindex_any (o : List (Int × Int)) (Ao : Option Addr) (co : Nat) (l : List PV) (Ap : Option Addr) (cp : Nat) (ho : o.length ≤ 8796093022208) (hown : ∀ x ∈ l, x.par.own.size ≤ maxLen) (w : World) (h : PlanAt w o Ao co l Ap cp) :
  Calls Tryz.prog 4 #[.agg #[.slice Ao o.length co, .slice Ap l.length cp]] w fun e w' => IndexAt w o l e w' := by
 have HPA := Lib.hid (fun W (hb : Below w.heap.size w W) => h.on hb)
 have HR := Lib.hid (fun W (hb : Below w.heap.size w W) => h.prs.on hb)
 have HQ := (Hold.refl w).new #[.slice Ao o.length co, .slice Ap l.length cp] 26
 have HO := Lib.hid ho
 have HOW := Lib.hid hown
 clear h ho hown
 go_enter Tryz.func4, Tryz.ntmps4
 go_upto_region 1 with (fail)
 generalize (World.alloc _ _) = W1 at HQ ⊢
 obtain ⟨g0, hg0⟩ : ∃ g, w.heap.size = g := ⟨_, rfl⟩
 have HG0 := Lib.hid hg0
 rw [hg0] at HQ ⊢
 clear hg0
 obtain ⟨c0, c1⟩ := HQ.pt (.head _)
 go_wp2_with fail
 go_loopg [4, 5] l.length (fun g n i wr => ∃ k : Nat, k ≤ l.length ∧ g = l.length - k ∧ n = .int .i64 (cornN o l k) ∧ i = .int .i64 k ∧ cornN o l k ≤ 17592186044416 ∧ k ≤ 81 ∧ Hold w [(g0, #[.slice Ao o.length co, .slice Ap l.length cp], 26)] wr)
 case atStart => exact ⟨0, Nat.zero_le _, rfl, rfl, rfl, by have := HO.out; show o.length ≤ _; omega, by decide, HQ⟩
 case round =>
  clear HQ c0 c1
  obtain ⟨k, hk, hgk, rfl, rfl, hcl, hk81, HB⟩ := hrel
  have HGK := Lib.hid hgk
  clear hgk
  obtain ⟨c0, c1⟩ := HB.pt (.head _)
  have HCL := Lib.hid hcl
  have HB9 := Lib.hid HB
  have hcm := fun (m : Nat) (h : k ≤ m) => cornN_mono (o := o) (l := l) h
  have hc0 : o.length ≤ cornN o l k := cornN_mono (o := o) (l := l) (Nat.zero_le k)
  have HCM := Lib.hid (And.intro hc0 (hcm l.length hk))
  by_cases hlt : k < l.length
  ·have b0 : (0 : Int) ≤ (k : Int) := by omega
   have b1 : (k : Int) < (l.length : Int) := by omega
   have hx : l[k]? = some l[k] := List.getElem?_eq_getElem hlt
   have HS := Lib.hid (cornN_succ (o := o) hx)
   by_cases h81 : k < 81
   ·have b2 : (k : Int) < 81 := by omega
    by_cases h400 : cornN o l k ≤ 300
    ·have b3 : (cornN o l k : Int) ≤ 300 := by omega
     have hw := HR.out _ HB.1
     obtain ⟨ad, rfl, -, d0, d1, d2⟩ := hw.at hlt
     have hsz := (hw.2 l[k] (List.getElem_mem hlt)).2.2
     have w1 := wrap_in (n := (cornN o l k : Int) + (l[k].par.ring.length : Int)) (by omega) (by omega)
     clear hw hcm hc0 hx
     obtain ⟨cl, hcl'⟩ : ∃ n, cornN o l k = n := ⟨_, rfl⟩
     rw [hcl'] at hcl b3 w1 HS h400 ⊢
     clear hcl' hsz
     have HSZ := Lib.hid (hr_len HR.out (Below.refl _ w) hlt)
     have H4 := Lib.hid h400
     generalize l[k].par.ring = ps at *
     clear hcl h400 h81 HB
     go_wp2_with fail
     go_roundg (l.length - (k + 1))
     case measure => have := HGK.out; omega
     case rel => exact ⟨k + 1, by omega, rfl, by rw [HS.out]; simp, by go_num, by have := HS.out; have := H4.out; have := HSZ.out; omega, by omega, HB9.out⟩
    ·have b3 : ¬ (cornN o l k : Int) ≤ 300 := by omega
     have b5 : (300 : Int) < (cornN o l k : Int) := by omega
     clear hcm hc0 hx HB
     obtain ⟨cl, hcl'⟩ : ∃ n, cornN o l k = n := ⟨_, rfl⟩
     rw [hcl'] at hcl b3 b5 h400 ⊢
     have HK9 := Lib.hid HB9.out.1
     go_wp2_with fail
     go_at_call 8
     refine (query_answers _).mono ?_
     rintro e w9 ⟨rfl, hb9⟩
     have HBE := Lib.hid (HK9.out.trans (hb9.mono HK9.out.size))
     clear hb9
     go_wp2_with fail
     refine bodyPost_ret (v := .tuple #[.pointer none, .bool true]) ?_ rfl (.inl ⟨rfl, HBE.out⟩)
     simp [results, Tryz.results4, go_sem]
   ·have b2 : ¬ (k : Int) < 81 := by omega
    have b4 : (80 : Int) < (l.length : Int) := by omega
    clear hcm hc0 hx HB
    obtain ⟨cl, hcl'⟩ : ∃ n, cornN o l k = n := ⟨_, rfl⟩
    rw [hcl'] at hcl ⊢
    by_cases h400 : cl ≤ 300
    ·have b3 : ¬ (300 : Int) < (cl : Int) := by omega
     have HK9 := Lib.hid HB9.out.1
     go_wp2_with fail
     go_at_call 8
     refine (query_answers _).mono ?_
     rintro e w9 ⟨rfl, hb9⟩
     have HBE := Lib.hid (HK9.out.trans (hb9.mono HK9.out.size))
     clear hb9
     go_wp2_with fail
     refine bodyPost_ret (v := .tuple #[.pointer none, .bool true]) ?_ rfl (.inl ⟨rfl, HBE.out⟩)
     simp [results, Tryz.results4, go_sem]
    ·have b3 : (300 : Int) < (cl : Int) := by omega
     have HK9 := Lib.hid HB9.out.1
     go_wp2_with fail
     go_at_call 8
     refine (query_answers _).mono ?_
     rintro e w9 ⟨rfl, hb9⟩
     have HBE := Lib.hid (HK9.out.trans (hb9.mono HK9.out.size))
     clear hb9
     go_wp2_with fail
     refine bodyPost_ret (v := .tuple #[.pointer none, .bool true]) ?_ rfl (.inl ⟨rfl, HBE.out⟩)
     simp [results, Tryz.results4, go_sem]
  ·obtain rfl : k = l.length := by omega
   clear hcm hc0 HB
   obtain ⟨cl, hcl'⟩ : ∃ n, cornN o l l.length = n := ⟨_, rfl⟩
   have HCC := Lib.hid hcl'
   rw [hcl'] at hcl ⊢
   by_cases h400 : cl ≤ 300
   ·have b3 : ¬ (300 : Int) < (cl : Int) := by omega
    have H4 := Lib.hid h400
    by_cases h80 : l.length ≤ 80
    ·have b4 : ¬ (80 : Int) < (l.length : Int) := by omega
     have H8 := Lib.hid h80
     clear h80 h400 hcl hcl'
     obtain ⟨e0, e1⟩ := HB9.out.pt (.head _)
     have HOA := Lib.hid (Own_any o Ao co l Ap cp (by have := H8.out; omega) wr (HPA.out wr HB9.out.1))
     clear c0 c1
     go_wp2_with fail
     go_at_call 10
     refine HOA.out.mono ?_
     rintro e w5 ⟨hb5, A1, c1, l2, Ap1, cp1, rfl, hp2, hpa2⟩
     have hl2 : l2.length = l.length := by
      have h := congrArg List.length hp2
      rw [List.length_map, List.length_map] at h
      exact h
     have hq5 := HB9.out.on hb5
     have hnew := New_any o A1 c1 l2 Ap1 cp1 (by have := H8.out; omega) HO.out (fun x hx => by
      have h1 : x.par ∈ l2.map PV.par := List.mem_map_of_mem hx
      rw [hp2] at h1
      obtain ⟨y, hy, e⟩ := List.mem_map.1 h1
      rw [← e]
      exact HOW.out y hy) w5 hpa2
     rw [hl2, chkQ_par hp2, hp2] at hnew
     have HNEW := Lib.hid hnew
     have HQ5 := Lib.hid hq5
     have HL2 := Lib.hid hl2
     have HP2 := Lib.hid hp2
     clear hnew hq5 hl2 hp2 hpa2 hb5 e0 e1 HOA
     go_wp2_with fail
     go_at_call 9
     refine HNEW.out.mono ?_
     rintro e w6 (⟨hck, rfl, hb6⟩ | ⟨hck, b, rfl, m1, m2, ⟨l', hix⟩, hb⟩)
     ·have hq6 := HQ5.out.on hb6
      obtain ⟨e0, e1⟩ := hq6.pt (.head _)
      have HQ6 := Lib.hid hq6
      have hrc := ref_chk o Ao co l Ap cp (by have := H8.out; omega) (by have := HCC.out; have := HCM.out.1; have := H4.out; omega) HOW.out w6 (HPA.out w6 hq6.1).prs (HPA.out w6 hq6.1).out
      rw [hck] at hrc
      have HRC := Lib.hid hrc
      clear hq6 hrc hck hb6 HNEW
      go_wp2_with fail
      go_at_call 11
      refine HRC.out.mono ?_
      rintro e w7 ⟨rfl, hb7⟩
      have HQ7 := Lib.hid (HQ6.out.1.trans (hb7.mono HQ6.out.1.size))
      clear hb7 e0 e1
      go_wp2_with fail
      go_at_call 8
      refine (query_answers _).mono ?_
      rintro e w8 ⟨rfl, hb8⟩
      have HBE := Lib.hid (HQ7.out.trans (hb8.mono HQ7.out.size))
      clear hb8
      go_wp2_with fail
      refine bodyPost_ret (v := .tuple #[.pointer none, .bool true]) ?_ rfl (.inl ⟨rfl, HBE.out⟩)
      simp [results, Tryz.results4, go_sem]
     ·have hpo := chkB_plan.1 hck
      have hq6 := HQ5.out.on hix.below
      obtain ⟨e0, e1⟩ := hq6.pt (.head _)
      have HQ6 := Lib.hid hq6
      have hrc := ref_chk o Ao co l Ap cp (by have := H8.out; omega) (by have := HCC.out; have := HCM.out.1; have := H4.out; omega) HOW.out w6 (HPA.out w6 hq6.1).prs (HPA.out w6 hq6.1).out
      rw [hck] at hrc
      have HRC := Lib.hid hrc
      have hl' : l'.length = l.length := by
       have h := congrArg List.length hix.par
       rw [List.length_map, List.length_map] at h
       exact h
      have hmade := idx_made hix hb (by have := H8.out; omega) (fun x hx => by
       have h1 : x.par ∈ l'.map PV.par := List.mem_map_of_mem hx
       rw [hix.par] at h1
       obtain ⟨y, hy, e⟩ := List.mem_map.1 h1
       have h2 := (normP_small (hpo.each y.par (List.mem_map_of_mem hy))).2
       rw [← e]
       unfold maxLen
       omega)
      have HMD := Lib.hid hmade
      have HPAR := Lib.hid hix.par
      have HLF := Lib.hid hix.left
      have HRW := Lib.hid (hix.rows.under HQ5.out.1)
      have HBO := Lib.hid (Nat.le_trans HQ5.out.1.size hix.own.1)
      have HBW : Hid (b < w6.heap.size) := blk_lt hb
      have HCK := Lib.hid hck
      clear hq6 hrc hck hix hb HNEW hpo hl' hmade
      go_wp2_with fail
      go_at_call 11
      refine HRC.out.mono ?_
      rintro e w7 ⟨rfl, hb7⟩
      have HB7 := Lib.hid hb7
      clear hb7 e0 e1
      go_wp2_with fail
      go_at_call 8
      refine (query_answers _).mono ?_
      rintro e w8 ⟨rfl, hb8⟩
      have HB8 := Lib.hid (HB7.out.trans (hb8.mono HB7.out.size))
      clear hb8
      go_wp2_with fail
      refine bodyPost_ret (v := .tuple #[.pointer (some ⟨b, 0, none⟩), .bool true]) ?_ rfl (.inr ⟨b, m1, m2, l', rfl, HQ6.out.1.trans (HB8.out.mono HQ6.out.1.size), HCK.out, ⟨H8.out, by have := HCC.out; have := H4.out; omega⟩, HPAR.out, HBO.out, HMD.out.1.but (grew_of HB8.out _), HMD.out.2.on HB8.out, HLF.out.on HB8.out HLF.out.lt, HRW.out.on HB8.out⟩)
      simp [results, Tryz.results4, go_sem]
    ·have b4 : (80 : Int) < (l.length : Int) := by omega
     have HK9 := Lib.hid HB9.out.1
     go_wp2_with fail
     go_at_call 8
     refine (query_answers _).mono ?_
     rintro e w9 ⟨rfl, hb9⟩
     have HBE := Lib.hid (HK9.out.trans (hb9.mono HK9.out.size))
     clear hb9
     go_wp2_with fail
     refine bodyPost_ret (v := .tuple #[.pointer none, .bool true]) ?_ rfl (.inl ⟨rfl, HBE.out⟩)
     simp [results, Tryz.results4, go_sem]
   ·have b3 : (300 : Int) < (cl : Int) := by omega
    have HK9 := Lib.hid HB9.out.1
    go_wp2_with fail
    go_at_call 8
    refine (query_answers _).mono ?_
    rintro e w9 ⟨rfl, hb9⟩
    have HBE := Lib.hid (HK9.out.trans (hb9.mono HK9.out.size))
    clear hb9
    go_wp2_with fail
    refine bodyPost_ret (v := .tuple #[.pointer none, .bool true]) ?_ rfl (.inl ⟨rfl, HBE.out⟩)
    simp [results, Tryz.results4, go_sem]
end Go.Proofs.YtoabooljgojoiabGreat
