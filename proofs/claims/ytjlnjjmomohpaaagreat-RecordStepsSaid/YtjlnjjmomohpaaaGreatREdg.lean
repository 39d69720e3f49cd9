/- Layer record: a ring's points by sixteens: the iterator. -/
import Derived.Test.YtjlnjjmomohpaaaGreatRMem
import Derived.Test.YtjlnjjmomohpaaaGreatSimple
import Derived.Test.YtjlnjjmomohpaaaGreatGridC
namespace Go.Proofs.YtjlnjjmomohpaaaGreat
open Go.RowKit Go.Shelf

def chN (n k : Nat) : Nat := min ((k + 1) * 16) n - k * 16
def chV (A : Option Addr) (n cap k : Nat) : Value := .slice (A.map fun a => a.add (k * 16 * 2)) (chN n k) (cap - k * 16)
def encC (A : Option Addr) (n cap : Nat) (x : Fin (nch n)) : Array Value := #[.int .i64 (x.1 : Int), chV A n cap x.1]
theorem chk_len {ps : List (Int × Int)} {k : Nat} : (chk ps k).length = chN ps.length k := by unfold chk chN; rw [List.length_take, List.length_drop]; omega
theorem run_chunk (ad : Addr) (n cap k : Nat) (hk : k * 16 < n) (hc : n ≤ cap) (w : World) :
  (Instr.slice 23 (.slice (some ad) n cap) (some (.int .i64 (((k * 16 : Nat) : Nat) : Int))) (some (.int .i64 ((min ((k + 1) * 16) n : Nat) : Int))) none).run Tryz.prog w = .ok (chV (some ad) n cap k) w := by
 have h1 := Tryz.underlying23
 have h2 := Tryz.sizeOf56
 have h3 : Tryz.prog.elem 23 = 56 := by kernel_rfl
 rw [run_slice_lh (P := Tryz.prog) (t := 23) (a := some ad) (len := n) (cap := cap) (ht := by rw [h3]; exact h1) (kl := .i64) (l := ((k * 16 : Nat) : Int)) (kh := .i64) (h := ((min ((k + 1) * 16) n : Nat) : Int)) (h0 := by omega) (h1 := by omega) (h2 := by omega), h3, h2]
 have : ¬ cap = k * 16 := by omega
 have e : ((k : Int) * 16).toNat = k * 16 := by omega
 simp [Result.andThen, sliced, chV, chN, e, this]
theorem chk_pts {w : World} {B : Nat} {A : Option Addr} {ps : List (Int × Int)} {k : Nat} (h : Pts w B A ps) (hk : k * 16 < ps.length) : Pts w B (A.map fun a => a.add (k * 16 * 2)) (chk ps k) := by
 obtain ⟨ad, e, -, -⟩ := h (by omega)
 subst e
 have h2 := (Pts.drop h hk).take 16
 unfold chk
 rw [Nat.mul_comm 16 k]
 exact h2

set_option maxRecDepth 100000 in
set_option maxHeartbeats 4000000 in
theorem chunks1_in (F : Fence) (n : Nat) (hf : F.fn 100) (hro : F.round = none) (hn : 1 ≤ n) (l Bs n₀ : Nat) (ps : List (Int × Int)) (A : Option Addr) (cap : Nat) (hlen : ps.length ≤ 1000000) (hcap : ps.length ≤ cap) (J Jx : List (Fin (nch ps.length)) → World → Prop) (W : World)
  (hY : ∀ pre x W, J pre W → pre.length < nch ps.length → YieldAt F (n - 1) Tryz.prog l (encC A ps.length cap x) W fun e W' =>
   (e = .returned (.bool true) ∧ J (pre ++ [x]) W' ∧ Kept n₀ W W') ∨ (e = .returned (.bool false) ∧ Jx (pre ++ [x]) W'))
  (hA : 0 < ps.length → ∃ ad, A = some ad) (hBs : W.heap[Bs]? = some (Obj.cells #[.slice A ps.length cap] 23 (0, 0))) (h0 : J [] W) :
  CallsIn F n Tryz.prog 100 #[.func (.yield l) #[] #[], .pointer (some ⟨Bs, 0, none⟩)] W fun e W' => (∃ v, e = .returned v) ∧
   ((∃ ys, ys = List.finRange (nch ps.length) ∧ J ys W') ∨ (∃ pre, Jx pre W')) := by
 refine callsIn_of_wp Tryz.func100 rfl hf ?_ hro
 simp only [Tryz.ntmps100, List.size_toArray, List.length_cons, List.length_nil, Nat.reduceAdd, Nat.reduceSub, Array.replicate_succ, Array.replicate_zero, List.push_toArray, List.append_toArray, List.nil_append, List.cons_append]
 gi_wp2
 gi_loopw [3] (fun i wr => ∃ k : Nat, k ≤ nch ps.length ∧ i = .int .i64 k ∧ J ((List.finRange (nch ps.length)).take k) wr ∧ Kept n₀ W wr)
  (fun i _ => nch ps.length - (intOf i).toNat)
 case atStart => exact ⟨0, Nat.zero_le _, rfl, h0, Kept.refl _ _⟩
 case round =>
  obtain ⟨k, hk, rfl, hJs, hK⟩ := hrel
  have hBr : wr.heap[Bs]? = some (Obj.cells #[.slice A ps.length cap] 23 (0, 0)) := hK.2 _ _ _ _ hBs (.inr rfl)
  have hcb : wr.cell? ⟨Bs, 0, none⟩ = some (.slice A ps.length cap) := blk_cell hBr 0
  have hkm : nch ps.length ≤ 62501 := by unfold nch; omega
  have w1 : IntKind.i64.wrap ((k : Int) * 16) = (k : Int) * 16 := IntWalk.i64_in _ (by omega)
  by_cases hlt : k < nch ps.length
  ·have hkl : k * 16 < ps.length := by unfold nch at hlt; omega
   obtain ⟨ad, rfl⟩ := hA (by omega)
   have b1 : (k : Int) * 16 < (ps.length : Int) := by omega
   obtain ⟨fn, tmps, assign, body, hy, hR⟩ := hY _ ⟨k, hlt⟩ wr hJs (by rw [List.length_take, List.length_finRange]; omega)
   unfold encC at hy
   dsimp only at hy
   have w2 : IntKind.i64.wrap ((k : Int) + 1) = (k : Int) + 1 := IntWalk.i64_in _ (by omega)
   have w3 : IntKind.i64.wrap (((k : Int) + 1) * 16) = ((k : Int) + 1) * 16 := IntWalk.i64_in _ (by omega)
   have hr := fun W => run_chunk ad ps.length cap k hkl hcap W
   obtain ⟨m, hm⟩ : ∃ m, min ((k + 1) * 16) ps.length = m := ⟨_, rfl⟩
   have r1 : min (((k : Int) + 1) * 16) (ps.length : Int) = (m : Int) := by omega
   have r2 : (if (ps.length : Int) < ((k : Int) + 1) * 16 then (ps.length : Int) else ((k : Int) + 1) * 16) = (m : Int) := by omega
   have r3 : (if ((k : Int) + 1) * 16 < (ps.length : Int) then ((k : Int) + 1) * 16 else (ps.length : Int)) = (m : Int) := by omega
   rw [hm, show ((k * 16 : Nat) : Int) = (k : Int) * 16 by omega] at hr
   generalize chV (some ad) ps.length cap k = cv at *
   clear hm hBr
   gi_wp2
   refine hR.mono ?_
   rintro e W3 (⟨rfl, hJ3, hk3⟩ | ⟨rfl, hJx3⟩)
   ·rw [← take_next hlt] at hJ3
    gi_wp2
    go_roundw
    case rel => exact ⟨k + 1, by omega, by simp, hJ3, hK.trans hk3⟩
    case measure => simp [intOf]; omega
   ·gi_wp2
    refine bodyPost_ret (results_none rfl _ _ _) rfl ?_
    exact ⟨⟨_, rfl⟩, .inr ⟨_, hJx3⟩⟩
  ·obtain rfl : k = nch ps.length := by omega
   have b1 : ¬ ((nch ps.length : Nat) : Int) * 16 < (ps.length : Int) := by unfold nch; omega
   gi_wp2
   go_end0
   rw [List.take_of_length_le (by simp)] at hJs
   first | exact ⟨⟨_, rfl⟩, .inl hJs⟩ | exact ⟨⟨_, rfl⟩, .inl ⟨_, rfl, hJs⟩⟩
set_option maxHeartbeats 1000000 in
theorem chunks_in (F : Fence) (n : Nat) (hf : F.fn 61) (hro : F.round = none) (A : Option Addr) (len cap : Nat) (w : World) :
  CallsIn F n Tryz.prog 61 #[.slice A len cap] w fun e w' => e = .returned (.func (.func 100) #[] #[.pointer (some ⟨w.heap.size, 0, none⟩)]) ∧ w' = w.alloc (.cells #[.slice A len cap] 23) := by
 refine callsIn_of_wp Tryz.func61 rfl hf ?_ hro
 simp only [Tryz.ntmps61, List.size_toArray, List.length_cons, List.length_nil, Nat.reduceAdd, Nat.reduceSub, Array.replicate_succ, Array.replicate_zero, List.push_toArray, List.append_toArray, List.nil_append, List.cons_append]
 gi_wp2
 go_ret
 exact ⟨rfl, rfl⟩
theorem chunks_stops (F : Fence) (n : Nat) (hf : F.fn 100) (hro : F.round = none) (hn : 1 ≤ n) (Bs : Nat) (ps : List (Int × Int)) (A : Option Addr) (cap : Nat) (hlen : ps.length ≤ 1000000) (hcap : ps.length ≤ cap) (w w1 : World)
  (hA : 0 < ps.length → ∃ ad, A = some ad) (hBs : w1.heap[Bs]? = some (Obj.cells #[.slice A ps.length cap] 23 (0, 0))) :
  SeqStopsK F n Tryz.prog 100 #[.pointer (some ⟨Bs, 0, none⟩)] (encC A ps.length cap) (Kept w.heap.size) (fun ys => ys = List.finRange (nch ps.length)) (fun _ => True) (nch ps.length) w1 := fun l J Jx W hW _ _ hY h0 =>
 (chunks1_in F n hf hro hn l Bs w.heap.size ps A cap hlen hcap J Jx W hY hA ((hW.block _ (blk_lt hBs)).trans hBs) h0).mono fun _ _ ⟨h1, h2⟩ => ⟨h1, h2.imp id (fun ⟨pre, h⟩ => ⟨pre, trivial, h⟩)⟩
end Go.Proofs.YtjlnjjmomohpaaaGreat

namespace Go.Proofs.YtjlnjjmomohpaaaGreat
open Go.RowKit Go.Lib

theorem edgL_take {p : Par} {k : Nat} (hk : k < p.ring.length) : (edgL p).take (k + 1) = (edgL p).take k ++ [(101 :: (pB8 (nx p.ring k) ++ pB8 (nx p.ring (k + 1))), idK p.id)] := by
 unfold edgL
 rw [← List.map_take, edg_take hk, List.map_append, List.map_take]
 rfl
theorem id_lim {n : Int} (h : idB n = true) : 0 ≤ n ∧ n ≤ 1073741824 := by
 unfold idB at h
 rw [Bool.and_eq_true, decide_eq_true_iff, decide_eq_true_iff] at h
 omega
theorem lone_it {W : World} {s t : List UInt8} {A B : Option Addr} {c d : Nat} (hs : ByT W A s) (hcs : s.length ≤ c) (hms : c ≤ maxLen) (hns : A = none → c = 0) (ht : ByT W B t) (hct : t.length ≤ d) (hmt : d ≤ maxLen) (hnt : B = none → d = 0) : ItAt W ⟨s, A, c, t, B, d⟩ := ⟨hs, ht, ⟨hcs, hms, hns⟩, hct, hmt, hnt⟩
theorem putID_nil (W : World) (n : Int) (h : 0 ≤ n ∧ n ≤ 1073741824) : Calls Tryz.prog 64 #[.slice none 0 0, .int .i64 n] W fun e w' => ∃ v, e = .returned v ∧ BRow W v (idK n) w' :=
 putID_any (W := W) (A := none) (c := 0) (s := []) n h (fun h => absurd h (by simp)) (fun _ => rfl) (by simp)
set_option maxRecDepth 100000 in
set_option maxHeartbeats 4000000 in
theorem edgeItems_any (x : PV) (hid : idB x.par.id = true) (hg : ∀ p ∈ x.par.ring, Gd p) (hl : x.par.ring.length ≤ 128) (w : World) (hr : Pts w w.heap.size x.A x.par.ring) :
  Calls Tryz.prog 27 #[.agg #[.int .i64 x.par.id, .slice x.A x.par.ring.length x.cap, .string x.par.own]] w fun e w' => ∃ v, e = .returned v ∧ ItRow w v (edgL x.par) w' := by
 have HQ := (Hold.refl w).new #[.int .i64 x.par.id, .slice x.A x.par.ring.length x.cap, .string x.par.own] 58
 have HID := Lib.hid (id_lim hid)
 have HR := Lib.hid hr
 have HG := Lib.hid hg
 have HL := Lib.hid hl
 have HE := Lib.hid (fun k hk => edgL_take (p := x.par) (k := k) hk)
 have HEL : Hid ((edgL x.par).length = x.par.ring.length) := by unfold Hid edgL; rw [List.length_map, edg_len]
 clear hr hg hl hid
 generalize edgL x.par = es at *
 generalize x.par.id = id at *
 generalize x.par.own = own at *
 generalize x.par.ring = ps at *
 generalize x.A = A at *
 generalize x.cap = cap at *
 go_enter Tryz.func27, Tryz.ntmps27
 go_upto_region 1 with (fail)
 generalize (World.alloc _ _) = W1 at HQ ⊢
 obtain ⟨g0, hg0⟩ : ∃ g, w.heap.size = g := ⟨_, rfl⟩
 have HG0 := Lib.hid hg0
 rw [hg0] at HQ ⊢
 clear hg0
 have c1 := HQ.cell (.head _) 1
 simp only [List.getElem?_toArray, List.getElem?_cons_zero, List.getElem?_cons_succ] at c1
 go_wp2_with fail
 clear c1
 go_loopg [3, 11] ps.length (fun g v i wr => ∃ k : Nat, k ≤ ps.length ∧ g = ps.length - k ∧ i = .int .i64 k ∧ Hold w [(g0, #[.int .i64 id, .slice A ps.length cap, .string own], 58)] wr ∧ ItRow w v (es.take k) wr)
 case atStart => exact ⟨0, Nat.zero_le _, rfl, rfl, HQ, ItRow.nil HQ.1⟩
 case round =>
  clear HQ
  obtain ⟨k, hk, hgk, rfl, HB, HV⟩ := hrel
  have HGK := Lib.hid hgk
  clear hgk
  by_cases hlt : k < ps.length
  ·obtain ⟨j, hj, hj1, hj2, hj3⟩ := next_place hlt
   have hHL := HL.out
   obtain ⟨ad, rfl, -, d0, d1⟩ := HR.out.nx HB.1 hlt (Nat.mod_eq_of_lt hlt)
   obtain ⟨ad', e, -, e0, e1⟩ := HR.out.nx HB.1 hj hj1
   obtain rfl := Option.some.inj e
   have hT := Lib.hid (HE.out k hlt)
   have ga := HG.out _ (nx_memR (show 0 < ps.length by omega) k)
   have gb := HG.out _ (nx_memR (show 0 < ps.length by omega) (k + 1))
   have hvl : (es.take k).length + 1 ≤ 1000000 := by rw [List.length_take]; omega
   have HVL := Lib.hid hvl
   have b0 : (0 : Int) ≤ (k : Int) := by omega
   have b1 : (k : Int) < (ps.length : Int) := by omega
   have b2 : (0 : Int) ≤ (j : Int) := by omega
   have b3 : (j : Int) < (ps.length : Int) := by omega
   have n1 : ¬ ps.length = 0 := by omega
   have n2 : ¬ ps = [] := by rintro rfl; simp at n1
   have hk0 : IntKind.i64.wrap ((k : Int) + 1) = (k : Int) + 1 := IntWalk.i64_in _ (by omega)
   have HN1 := HB.new #[.int .i64 (nx ps k).1, .int .i64 (nx ps k).2] 56
   have HV1 := HV.on ((Below.refl _ wr).alloc (Nat.le_refl _) (Obj.cells #[.int .i64 (nx ps k).1, .int .i64 (nx ps k).2] 56 (0, 0)))
   have hb1 : Below wr.heap.size wr (wr.alloc (Obj.cells #[.int .i64 (nx ps k).1, .int .i64 (nx ps k).2] 56 (0, 0))) := (Below.refl _ wr).alloc (Nat.le_refl _) _
   obtain ⟨ad2, h2, hlt2, f0, f1⟩ := HR.out.nx HN1.1 hj hj1
   obtain rfl := Option.some.inj h2
   clear hj1 hvl HV hk e0 e1 e h2
   generalize nx ps k = a at *
   generalize nx ps (k + 1) = b at *
   go_upto_region 5 with (fail)
   clear d0 d1 HB hb1
   generalize (World.alloc _ _) = W2 at HN1 HV1 f0 f1 ⊢
   generalize wr.heap.size = g5 at HN1 ⊢
   have c1 := HN1.cell (.tail _ (.head _)) 1
   simp only [List.getElem?_toArray, List.getElem?_cons_zero, List.getElem?_cons_succ] at c1
   have HN2 := (HN1.new #[.int .i64 b.1, .int .i64 b.2] 56).drew
   have hbo := fun o : Obj => ((Below.refl W2.heap.size W2).alloc (Nat.le_refl _) o).drew
   have HV2 := HV1.on (hbo (Obj.cells #[.int .i64 b.1, .int .i64 b.2] 56 (0, 0)))
   have hlt3 : ad.block < W2.heap.size := Nat.lt_of_lt_of_le hlt2 HN1.1.size
   have HS := Lib.hid (fun o : Obj => And.intro (((hbo o).cell (p := ⟨g0, 1, none⟩) (HN1.lt (.tail _ (.head _)))).trans c1) (And.intro (((hbo o).cell (p := ad.add (j * 2)) (by rw [block_of_add]; exact hlt3)).trans f0) (((hbo o).cell (p := ⟨(ad.add (j * 2)).block, (ad.add (j * 2)).off + 1, none⟩) (by show (ad.add (j * 2)).block < _; rw [block_of_add]; exact hlt3)).trans f1)))
   refine wp_region_held_drew (S := fun W => W.cell? ⟨g0, 1, none⟩ = some (.slice (some ad) ps.length cap) ∧ W.cell? (ad.add (j * 2)) = some (.int .i64 b.1) ∧ W.cell? ⟨(ad.add (j * 2)).block, (ad.add (j * 2)).off + 1, none⟩ = some (.int .i64 b.2)) (by kernel_rfl) ⟨c1, f0, f1⟩ (fun hHeld => ?_)
   refine tZ 0 ?_; refine tZ 1 ?_; refine tZ 2 ?_; refine tZ 3 ?_; refine tZ 4 ?_; refine tZ 5 ?_; refine tZ 6 ?_; refine tZ 7 ?_; refine tZ 8 ?_; refine tZ 9 ?_
   refine wpAnyH_ready (rs := [10]) (by decide +kernel) (by simp) ?_
   refine AllReadyH.cons rfl (fun K hK => ?_) AllReadyH.nil
   (try simp only [jA, jB, jC])
   go_simp
   refine hK.out _ _ ?_ (fun hHeld => ?_)
   focus ((try dsimp only); exact HS.out _; done)
   clear hK K
   (try simp only [Act.put, jA, jB, jC, jD, jE, jF])
   refine wpAnyH_ready (rs := [11]) (by decide +kernel) (by simp) ?_
   refine AllReadyH.cons rfl (fun K hK => ?_) AllReadyH.nil
   (try simp only [jA, jB, jC])
   go_simp
   refine hK.out _ _ ?_ (fun hHeld => ?_)
   focus ((try dsimp only); exact HS.out _; done)
   clear hK K
   (try simp only [Act.put, jA, jB, jC, jD, jE, jF])
   refine wpAnyH_done (by decide +kernel) ?_ _
   clear hHeld HS hbo f0 f1 c1 HN1 HV1 hlt2 hlt3 hk0 n1 n2
   generalize (World.drew _) = W3 at HN2 HV2 ⊢
   generalize W2.heap.size = g6 at HN2 ⊢
   go_upto_region 6 with (fail)
   obtain ⟨a0, a1⟩ := HN2.pt (.tail _ (.head _))
   obtain ⟨b4, b5⟩ := HN2.pt (.head _)
   have HSB := Lib.hid (fun W (h : Below W3.heap.size W3 W) => And.intro ((HN2.on h).pt (.tail _ (.head _))) ((HN2.on h).pt (.head _)))
   refine wp_region_held_drew (S := fun W => (W.cell? ⟨g5, 0, none⟩ = some (.int .i64 a.1) ∧ W.cell? ⟨g5, 1, none⟩ = some (.int .i64 a.2)) ∧ W.cell? ⟨g6, 0, none⟩ = some (.int .i64 b.1) ∧ W.cell? ⟨g6, 1, none⟩ = some (.int .i64 b.2)) (by kernel_rfl) (HSB.out _ ((Below.refl _ W3).drew)) (fun hHeld => ?_)
   refine tZ 1 ?_; refine tZ 3 ?_
   refine wpAnyH_ready (rs := [0]) (by decide +kernel) (by simp) ?_
   refine AllReadyH.cons rfl (fun K hK => ?_) AllReadyH.nil
   (try simp only [jA, jB])
   go_simp
   refine hK.out _ _ ?_ (fun hHeld => ?_)
   focus ((try dsimp only); exact HSB.out _ ((Below.refl _ W3).drew.alloc (Nat.le_refl _) _); done)
   clear hK K
   (try simp only [Act.put, jA, jB, jC, jD, jE, jF])
   have hb4 : Below W3.heap.size W3 (W3.alloc (Obj.cells #[.int .u8 101] 5)).drew := ((Below.refl _ W3).alloc (Nat.le_refl _) _).drew
   have hl4 : BytesAt (W3.alloc (Obj.cells #[.int .u8 101] 5)).drew (some ⟨W3.heap.size, 0, none⟩) [(101 : UInt8)].length [(101 : UInt8)] := (bytes_lit (W := W3) (t := 5) (s := [(101 : UInt8)]) (cs := #[.int .u8 101]) (fr := (0, 0)) rfl).on ((Below.refl _ _).drew)
   have HP4 := Lib.hid (putPoint_any (A := some ⟨W3.heap.size, 0, none⟩) (c := 1) a ga hl4 (fun e => by cases e) (by decide))
   have HQ4 := Lib.hid hb4
   clear hb4 hl4
   generalize (World.drew _) = W4 at HP4 HQ4 ⊢
   refine wpAnyH_ready (rs := [2]) (by decide +kernel) (by simp) ?_
   refine AllReadyH.cons rfl (fun K hK => ?_) AllReadyH.nil
   (try simp only [jA, jB, jC])
   go_simp
   (go_at_call 65; refine HP4.out.mono ?_; rintro e' W5 ⟨v5, rfl, hR5⟩; obtain ⟨A5, c5, rfl, hb5, -, -, hn5⟩ := hR5.byT; have HQ5 := Lib.hid (HQ4.out.trans (hR5.1.mono HQ4.out.size)); have HP5 := Lib.hid (putPoint_any (A := A5) (c := c5) b gb hb5.bytes hn5 (by rw [List.length_append, pB8_len]; decide)); clear hR5 hb5 hn5)
   refine hK.out _ _ ?_ (fun hHeld => ?_)
   focus ((try dsimp only); exact HSB.out _ HQ5.out; done)
   clear hK K
   (try simp only [Act.put, jA, jB, jC, jD, jE, jF])
   refine wpAnyH_ready (rs := [4]) (by decide +kernel) (by simp) ?_
   refine AllReadyH.cons rfl (fun K hK => ?_) AllReadyH.nil
   (try simp only [jA, jB, jC])
   go_simp
   (go_at_call 65; refine HP5.out.mono ?_; rintro e' W6 ⟨v6, rfl, hR6⟩; have HQ6 := Lib.hid (HQ5.out.trans (hR6.1.mono HQ5.out.size)); have HR6 := Lib.hid hR6; clear hR6)
   refine hK.out _ _ ?_ (fun hHeld => ?_)
   focus ((try dsimp only); exact HSB.out _ HQ6.out; done)
   clear hK K
   (try simp only [Act.put, jA, jB, jC, jD, jE, jF])
   refine tZ 5 ?_
   refine wpAnyH_done (by decide +kernel) ?_ _
   have HN6 := HN2.on HQ6.out
   have HV6 := HV2.on HQ6.out
   obtain ⟨A6, c6, rfl, hb6, hc6, hm6, hn6⟩ := HR6.out.byT
   have c0 := HN6.cell (.tail _ (.tail _ (.head _))) 0
   simp only [List.getElem?_toArray, List.getElem?_cons_zero] at c0
   have HI := Lib.hid (putID_nil W6 id HID.out)
   clear hHeld a0 a1 b4 b5 HN2 HV2 HSB HR6 HQ6 HQ5 HP5 HP4 HQ4
   have hT2 : Hid (es.take (k + 1) = es.take k ++ [(([101] ++ pB8 a) ++ pB8 b, idK id)]) := by
    unfold Hid; rw [hT.out]; simp
   generalize ([101] ++ pB8 a) ++ pB8 b = key at *
   go_wp2_with (first
    |(go_at_call 64; go_must ((with_reducible refine HI.out.mono ?_); rintro e' W7 ⟨v7, rfl, hR7⟩; have HV7 := Lib.hid (HV6.on hR7.1); have HN7 := Lib.hid (HN6.tail.tail.on hR7.1); have HB7 := Lib.hid (hb6.on hR7.1); obtain ⟨A7, c7, rfl, hb7, hc7, hm7, hn7⟩ := hR7.byT; have HX7 := Lib.hid (lone_it HB7.out hc6 hm6 hn6 hb7 hc7 hm7 hn7); clear hR7 hb7 hc7 hm7 hn7))
    |(at_builtin; go_must (refine append_it HV7.out ⟨key, A6, c6, idK id, A7, c7⟩ HX7.out _ rfl HVL.out rfl _ _ rfl rfl _ rfl ?_; rintro v8 W8 hR8 hk8; have HN8 := Lib.hid (HN7.out.keepT hR8.below hk8 (by simp)); have HR8 := Lib.hid hR8; clear hR8 hk8)))
   go_roundg (ps.length - (k + 1))
   case measure => have := HGK.out; omega
   case rel => exact ⟨k + 1, by omega, rfl, by go_num, HN8.out, by rw [hT2.out]; exact HR8.out⟩
  ·obtain rfl : k = ps.length := by omega
   rw [List.take_of_length_le (by rw [HEL.out]; exact Nat.le_refl _)] at HV
   have HK := Lib.hid HV
   clear HV
   go_wp2
   go_ret
   exact ⟨_, rfl, HK.out⟩
theorem putL_one (n : Nat) : putL n 1 = [UInt8.ofNat n] := by
 show [UInt8.ofNat (n / 256 ^ 0)] = _
 simp
theorem cell_num {x : Int} (h : -4 ≤ x ∧ x ≤ 4) : IntKind.i64.wrap (x + 128) = (((x + 128).toNat : Nat) : Int) ∧ (x + 128).toNat < 256 := by
 have e := IntWalk.i64_in (x + 128) (by omega)
 refine ⟨by rw [e]; omega, by omega⟩
theorem PutNum_one {W : World} {A : Option Addr} {c : Nat} {s : List UInt8} (n : Nat) (hB : BytesAt W A s.length s) (hn : A = none → c = 0) (hm : s.length ≤ 1000000) (h : n < 256) :
  Calls Tryz.prog 62 #[.slice A s.length c, .int .i64 (n : Nat), .int .i64 1] W fun e w' => ∃ v, e = .returned v ∧ BRow W v (s ++ [UInt8.ofNat n]) w' := by
 have h1 := PutNum_any (A := A) (c := c) ((n : Nat) : Int) 1 hB hn (by omega) (by omega)
 rw [show putB s ((n : Nat) : Int) 1 = s ++ putL n 1 from putB_nat s n 1 (by decide) (by decide) (by omega), putL_one] at h1
 exact h1
theorem celL_take {p : Par} {k : Nat} {l : List (Int × Int)} (hl : spL (awL p.ring).1 (awL p.ring).2 = l) (hk : k < l.length) : (celL p).take (k + 1) = (celL p).take k ++ [(99 :: UInt8.ofNat (l[k].1 + 128).toNat :: UInt8.ofNat (l[k].2 + 128).toNat :: idK p.id, [])] := by
 unfold celL
 subst hl
 rw [← List.map_take, List.take_succ_eq_append_getElem hk, List.map_append, List.map_take]
 rfl
set_option maxRecDepth 100000 in
set_option maxHeartbeats 4000000 in
theorem cellItems_any (x : PV) (hid : idB x.par.id = true) (hc : chE x.par.ring = 0) (w : World) (hr : Pts w w.heap.size x.A x.par.ring) :
  Calls Tryz.prog 28 #[.agg #[.int .i64 x.par.id, .slice x.A x.par.ring.length x.cap, .string x.par.own]] w fun e w' => ∃ v, e = .returned v ∧ ItRow w v (celL x.par) w' := by
 have HQ := (Hold.refl w).new #[.int .i64 x.par.id, .slice x.A x.par.ring.length x.cap, .string x.par.own] 58
 have HID := Lib.hid (id_lim hid)
 obtain ⟨hn, hgl⟩ := arE_zero.1 (chE_zero.1 hc).1
 have h3 := (chE_zero.1 hc).2.1
 have HCL := Lib.hid (fun W (h : Below w.heap.size w W) => cells_good x.par.ring x.A x.cap hc W (hr.on h))
 obtain ⟨l, hl⟩ : ∃ l, spL (awL x.par.ring).1 (awL x.par.ring).2 = l := ⟨_, rfl⟩
 have HE := Lib.hid (fun k hk => celL_take (p := x.par) (k := k) hl hk)
 have HLM : Hid (∀ c ∈ l, (-4 ≤ c.1 ∧ c.1 ≤ 4) ∧ -4 ≤ c.2 ∧ c.2 ≤ 4) := fun c hcl => cell_lim (r := x.par.ring) (fun i => gdL_iff.1 hgl _ (nx_memR (by omega) i)) (by rw [hl]; exact hcl)
 have HEL : Hid ((celL x.par).length = l.length) := by unfold Hid celL; rw [List.length_map, hl]
 have HLL : Hid (l.length ≤ 1000) := by
  obtain ⟨a, b⟩ := awT_gd (r := x.par.ring) (fun i => gdL_iff.1 hgl _ (nx_memR (by omega) i)) x.par.ring.length
  have := spL_len_le a b
  unfold awL at hl
  rw [hl] at this
  unfold Hid; omega
 rw [hl] at HCL
 clear hr hid hl hc hn hgl h3
 generalize celL x.par = es at *
 generalize x.par.id = id at *
 generalize x.par.own = own at *
 generalize x.par.ring = ps at *
 generalize x.A = A at *
 generalize x.cap = cap at *
 go_enter Tryz.func28, Tryz.ntmps28
 go_upto_region 1 with (fail)
 generalize (World.alloc _ _) = W1 at HQ ⊢
 obtain ⟨g0, hg0⟩ : ∃ g, w.heap.size = g := ⟨_, rfl⟩
 have HG0 := Lib.hid hg0
 rw [hg0] at HQ ⊢
 clear hg0
 have c1 := HQ.cell (.head _) 1
 simp only [List.getElem?_toArray, List.getElem?_cons_zero, List.getElem?_cons_succ] at c1
 have HCQ := Lib.hid (HCL.out _ HQ.1)
 go_wp2_with (go_at_call 66; go_must ((with_reducible refine HCQ.out.mono ?_); rintro e' W2 ⟨v2, rfl, hR2⟩; have hq2 := HQ.on hR2.1; obtain ⟨A2, c2, rfl, hi2, -⟩ := hR2.items; have HI2 := Lib.hid hi2; have HQ2 := Lib.hid hq2; have HB2 := Lib.hid hR2.1; clear hR2 hq2 hi2 c1))
 go_loopg [3, 17] l.length (fun g v i wr => ∃ k : Nat, k ≤ l.length ∧ g = l.length - k ∧ i = .int .i64 k ∧ Hold w [(g0, #[.int .i64 id, .slice A ps.length cap, .string own], 58)] wr ∧ ItRow W2 v (es.take k) wr)
 case atStart => exact ⟨0, Nat.zero_le _, rfl, rfl, HQ2.out, ItRow.nil (Below.refl _ _)⟩
 case round =>
  clear HQ
  obtain ⟨k, hk, hgk, rfl, HB, HV⟩ := hrel
  have HB3 := Lib.hid HV.below
  have HGK := Lib.hid hgk
  clear hgk
  by_cases hlt : k < l.length
  ·have hHL := HLL.out
   obtain ⟨ad, rfl, -, d0, d1⟩ := cells_at (HI2.out.on HB3.out) hlt
   have hT := Lib.hid (HE.out k hlt)
   obtain ⟨lm1, lm2⟩ := HLM.out l[k] (List.getElem_mem hlt)
   obtain ⟨r1, s1⟩ := cell_num lm1
   obtain ⟨r2, s2⟩ := cell_num lm2
   have hvl : (es.take k).length + 1 ≤ 1000000 := by rw [List.length_take]; omega
   have HVL := Lib.hid hvl
   have b0 : (0 : Int) ≤ (k : Int) := by omega
   have b1 : (k : Int) < (l.length : Int) := by omega
   have hk0 : IntKind.i64.wrap ((k : Int) + 1) = (k : Int) + 1 := IntWalk.i64_in _ (by omega)
   have HN1 := HB.new #[.int .i64 l[k].1, .int .i64 l[k].2] 87
   have hbx : Below wr.heap.size wr (wr.alloc (Obj.cells #[.int .i64 l[k].1, .int .i64 l[k].2] 87 (0, 0))) := (Below.refl _ wr).alloc (Nat.le_refl _) _
   have HV1 := HV.on hbx
   clear hvl HV hk lm1 lm2 hbx hHL HB3 HB
   generalize l[k] = a at *
   obtain ⟨n1, hn1⟩ : ∃ n, (a.1 + 128).toNat = n := ⟨_, rfl⟩
   obtain ⟨n2, hn2⟩ : ∃ n, (a.2 + 128).toNat = n := ⟨_, rfl⟩
   rw [hn1] at r1 s1 hT
   rw [hn2] at r2 s2 hT
   clear hn1 hn2
   go_upto_region 6 with (fail)
   clear d0 d1
   generalize (World.alloc _ _) = W3 at HN1 HV1 ⊢
   generalize wr.heap.size = g7 at HN1 ⊢
   obtain ⟨x0, x1⟩ := (HN1.alloc (Obj.cells #[.int .u8 99] 5 (0, 0))).pt (.head _)
   have hb4 : Below W3.heap.size W3 (W3.alloc (Obj.cells #[.int .u8 99] 5)) := (Below.refl _ W3).alloc (Nat.le_refl _) _
   have hl4 := (bytes_lit (W := W3) (t := 5) (s := [(99 : UInt8)]) (cs := #[.int .u8 99]) (fr := (0, 0)) rfl)
   have HP4 := Lib.hid (PutNum_one (A := some ⟨W3.heap.size, 0, none⟩) (c := 1) n1 hl4 (fun e => by cases e) (by decide) s1)
   have HQ4 := Lib.hid hb4
   clear hb4 hl4
   obtain ⟨key, hkey⟩ : ∃ key, ([99] ++ [UInt8.ofNat n1]) ++ [UInt8.ofNat n2] = key := ⟨_, rfl⟩
   have HKL : Hid (key.length ≤ 10) := by unfold Hid; rw [← hkey]; simp
   have hT2 : Hid (es.take (k + 1) = es.take k ++ [(key ++ idK id, [])]) := by
    unfold Hid; rw [hT.out, ← hkey]; simp
   have HKY := Lib.hid hkey
   clear hT hkey
   go_upto_region 7 with (go_at_call 62; go_must (refine HP4.out.mono ?_; rintro e' W5 ⟨v5, rfl, hR5⟩; obtain ⟨A5, c5, rfl, hb5, -, -, hn5⟩ := hR5.byT; have HQ5 := Lib.hid (HQ4.out.trans (hR5.1.mono HQ4.out.size)); have HP5 := PutNum_one (A := A5) (c := c5) n2 hb5.bytes hn5 (by simp) s2; rw [HKY.out] at HP5; replace HP5 := Lib.hid HP5; clear hR5 hb5 hn5))
   obtain ⟨y0, y1⟩ := (HN1.on HQ5.out).pt (.head _)
   clear x0 x1 HP4
   go_upto_region 8 with (go_at_call 62; go_must (refine HP5.out.mono ?_; rintro e' W6 ⟨v6, rfl, hR6⟩; obtain ⟨A6, c6, rfl, hb6, -, -, hn6⟩ := hR6.byT; have HQ6 := Lib.hid (HQ5.out.trans (hR6.1.mono HQ5.out.size)); have HP6 := Lib.hid (putID_any (A := A6) (c := c6) id HID.out hb6.bytes hn6 (by have := HKL.out; omega)); clear hR6 hb6 hn6))
   clear y0 y1 HP5
   have HN6 := HN1.on HQ6.out
   have HV6 := HV1.on HQ6.out
   have c0 := HN6.cell (.tail _ (.head _)) 0
   simp only [List.getElem?_toArray, List.getElem?_cons_zero] at c0
   clear HN1 HV1 HQ4 HQ5 HQ6
   generalize key ++ idK id = kid at *
   go_wp2_with (first
    |(go_at_call 64; go_must ((with_reducible refine HP6.out.mono ?_); rintro e' W7 ⟨v7, rfl, hR7⟩; have HV7 := Lib.hid (HV6.on hR7.1); have HN7 := Lib.hid (HN6.tail.on hR7.1); obtain ⟨A7, c7, rfl, hb7, hc7, hm7, hn7⟩ := hR7.byT; have HX7 := Lib.hid (lone_it (B := none) (d := 0) (t := []) hb7 hc7 hm7 hn7 (ByT.nil _ _) (Nat.le_refl _) (Nat.zero_le _) (fun _ => rfl)); clear hR7 hb7 hc7 hm7 hn7))
    |(at_builtin; go_must (refine append_it HV7.out ⟨kid, A7, c7, [], none, 0⟩ HX7.out _ rfl HVL.out rfl _ _ rfl rfl _ rfl ?_; rintro v8 W8 hR8 hk8; have HN8 := Lib.hid (HN7.out.keepT (HQ2.out.1.trans (hR8.below.mono HQ2.out.1.size)) hk8 (by simp)); have HR8 := Lib.hid hR8; clear hR8 hk8)))
   have hHL := HLL.out
   go_roundg (l.length - (k + 1))
   case measure => have := HGK.out; omega
   case rel => exact ⟨k + 1, by omega, rfl, by go_num, HN8.out, by rw [hT2.out]; exact HR8.out⟩
  ·obtain rfl : k = l.length := by omega
   rw [List.take_of_length_le (by rw [HEL.out]; exact Nat.le_refl _)] at HV
   have HK := Lib.hid HV
   clear HV
   go_wp2
   go_ret
   exact ⟨_, rfl, HK.out.base HQ2.out.1⟩
end Go.Proofs.YtjlnjjmomohpaaaGreat
