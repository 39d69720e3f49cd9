/- The contracts of the library's calls that Norm makes (Compare, Or, MinFunc, Index, Grow, Concat), and of the program's call Norm. -/
import Derived.Test.YtjlnjjmomohpaaaGreatTurned
import Derived.Test.YtjlnjjmomohpaaaGreatRefPar
import Derived.Shelf.Spec.SlicesGrow
import Derived.Test.YtjlnjjmomohpaaaGreatSide
import Derived.Test.YtjlnjjmomohpaaaGreatRingP
namespace Go.Proofs.YtjlnjjmomohpaaaGreat
open Go.RowKit

def sg1 (x y : Int) : Int := if x < y then -1 else if y < x then 1 else 0
def orV (x y : Int) : Int := if x ≠ 0 then x else y
def cxy (a b : Int × Int) : Int := orV (sg1 a.1 b.1) (sg1 a.2 b.2)
theorem cxy_less (a b : Int × Int) : cxy a b < 0 ↔ lessB a b = true := by
 unfold cxy orV sg1 lessB
 rw [Bool.or_eq_true, Bool.and_eq_true, decide_eq_true_iff, decide_eq_true_iff, decide_eq_true_iff]
 repeat' split
 all_goals omega

theorem nan_any (x : Int) (w : World) : Calls Tryz.prog 179 #[.int .i64 x] w fun e w' => e = .returned (.bool false) ∧ w' = w := by
 go_enter Tryz.func179, Tryz.ntmps179
 go_wp2
 go_ret
 exact ⟨by simp, rfl⟩
theorem compare_int (x y : Int) (w : World) : Calls Tryz.prog 158 #[.int .i64 x, .int .i64 y] w fun e w' => e = .returned (.int .i64 (sg1 x y)) ∧ w' = w := by
 have hcs : x < y ∨ (¬ x < y ∧ y < x) ∨ (¬ x < y ∧ ¬ y < x) := by omega
 have HC := Lib.hid (show sg1 x y = if x < y then -1 else if y < x then 1 else 0 from rfl)
 rcases hcs with h | ⟨h, h2⟩ | ⟨h, h2⟩
 ·have HE : Hid (sg1 x y = -1) := Lib.hid (by rw [HC.out, if_pos h])
  go_enter Tryz.func158, Tryz.ntmps158
  go_wp2_with (go_at_call 179; go_must (refine (nan_any _ _).mono ?_; rintro e w' ⟨rfl, rfl⟩))
  go_ret
  rw [HE.out]
  exact ⟨rfl, rfl⟩
 ·have HE : Hid (sg1 x y = 1) := Lib.hid (by rw [HC.out, if_neg h, if_pos h2])
  go_enter Tryz.func158, Tryz.ntmps158
  go_wp2_with (go_at_call 179; go_must (refine (nan_any _ _).mono ?_; rintro e w' ⟨rfl, rfl⟩))
  go_ret
  rw [HE.out]
  exact ⟨rfl, rfl⟩
 ·have HE : Hid (sg1 x y = 0) := Lib.hid (by rw [HC.out, if_neg h, if_neg h2])
  go_enter Tryz.func158, Tryz.ntmps158
  go_wp2_with (go_at_call 179; go_must (refine (nan_any _ _).mono ?_; rintro e w' ⟨rfl, rfl⟩))
  go_ret
  rw [HE.out]
  exact ⟨rfl, rfl⟩
theorem or_any (x y : Int) (g cap : Nat) (w : World) (h0 : w.cell? ⟨g, 0, none⟩ = some (.int .i64 x)) (h1 : w.cell? ⟨g, 1, none⟩ = some (.int .i64 y)) :
  Calls Tryz.prog 157 #[.slice (some ⟨g, 0, none⟩) 2 cap] w fun e w' => e = .returned (.int .i64 (orV x y)) ∧ w' = w := by
 obtain ⟨v, hv⟩ : ∃ v, orV x y = v := ⟨_, rfl⟩
 have HV : Hid (v = if x ≠ 0 then x else y) := Lib.hid (by rw [← hv]; rfl)
 rw [hv]
 clear hv
 go_enter Tryz.func157, Tryz.ntmps157
 go_wp2
 go_loopg [8] 2 (fun n i wr => ∃ k : Nat, k ≤ 2 ∧ n = 2 - k ∧ i = .int .i64 k ∧ wr = w ∧ (0 < k → x = 0) ∧ (1 < k → y = 0))
 case atStart => exact ⟨0, by omega, by omega, rfl, rfl, fun h => absurd h (by omega), fun h => absurd h (by omega)⟩
 case round =>
  obtain ⟨k, hk, hgk, rfl, rfl, hx, hy⟩ := hrel
  have hgk' := Lib.hid hgk
  clear hgk
  have hcs : k = 0 ∨ k = 1 ∨ k = 2 := by omega
  rcases hcs with rfl | rfl | rfl
  ·by_cases h : x = 0
   ·have h' : (x != 0) = false := by simpa using h
    clear h
    go_wp2
    go_roundg 1
    case measure => have := hgk'.out; omega
    case rel => exact ⟨1, by omega, by omega, rfl, rfl, fun _ => by simpa using h', fun h => absurd h (by omega)⟩
   ·have h' : (x != 0) = true := by simpa using h
    have HE : Hid (v = x) := Lib.hid (by rw [HV.out, if_pos h])
    clear h hx hy
    go_wp2
    go_ret
    exact ⟨by rw [HE.out]; rfl, rfl⟩
  ·have hx0 := hx (by omega)
   by_cases h : y = 0
   ·have h' : (y != 0) = false := by simpa using h
    clear h
    go_wp2
    go_roundg 0
    case measure => have := hgk'.out; omega
    case rel => exact ⟨2, by omega, by omega, rfl, rfl, fun _ => hx0, fun _ => by simpa using h'⟩
   ·have h' : (y != 0) = true := by simpa using h
    have HE : Hid (v = y) := Lib.hid (by rw [HV.out, if_neg (fun h => h hx0)])
    clear h hx hy
    go_wp2
    go_ret
    exact ⟨by rw [HE.out]; rfl, rfl⟩
  ·have HE : Hid (v = 0) := Lib.hid (by rw [HV.out, if_neg (fun h => h (hx (by omega)))]; exact hy (by omega))
   clear hx hy
   go_wp2
   go_ret
   exact ⟨by rw [HE.out]; rfl, rfl⟩

set_option maxHeartbeats 1000000 in
theorem byxy_any (a b : Int × Int) (w : World) :
  Calls Tryz.prog 128 #[.agg #[.int .i64 a.1, .int .i64 a.2], .agg #[.int .i64 b.1, .int .i64 b.2]] w fun e w' => e = .returned (.int .i64 (cxy a b)) ∧ Below w.heap.size w w' := by
 have HQ := ((Hold.refl w).new #[.int .i64 a.1, .int .i64 a.2] 56).new' #[.int .i64 b.1, .int .i64 b.2] 56 (n := w.heap.size + 1) (by simp only [World.size_alloc])
 have HO := Lib.hid (fun x y g cap w h0 h1 => or_any x y g cap w h0 h1)
 have HCX : Hid (cxy a b = orV (sg1 a.1 b.1) (sg1 a.2 b.2)) := Lib.hid rfl
 go_enter Tryz.func128, Tryz.ntmps128
 go_upto_region 1 with (fail)
 generalize (World.alloc _ _) = W1 at HQ ⊢
 generalize w.heap.size + 1 = g1 at HQ ⊢
 refine wp_region_held_drew (S := fun W => W.cell? ⟨w.heap.size, 0, none⟩ = some (.int .i64 a.1) ∧ W.cell? ⟨w.heap.size, 1, none⟩ = some (.int .i64 a.2) ∧ W.cell? ⟨g1, 0, none⟩ = some (.int .i64 b.1) ∧ W.cell? ⟨g1, 1, none⟩ = some (.int .i64 b.2)) (by kernel_rfl) (Hold.rd2 (Hold.drew HQ)) (fun hHeld => ?_)
 refine tZ 0 ?_; refine tZ 1 ?_; refine tZ 2 ?_; refine tZ 3 ?_; refine tZ 5 ?_; refine tZ 6 ?_; refine tZ 7 ?_; refine tZ 8 ?_
 refine wpAnyH_ready (rs := [4]) (by decide +kernel) (by simp) ?_
 refine AllReadyH.cons rfl (fun K hK => ?_) AllReadyH.nil
 (try simp only [jA, jB, jC])
 go_simp
 (go_at_call 158; refine (compare_int _ _ _).mono ?_; rintro e w' ⟨rfl, rfl⟩)
 refine hK.out _ _ ?_ (fun hHeld => ?_)
 focus ((try dsimp only); exact hHeld; done)
 clear hK K
 (try simp only [Act.put, jA, jB, jC, jD, jE, jF])
 refine wpAnyH_ready (rs := [9]) (by decide +kernel) (by simp) ?_
 refine AllReadyH.cons rfl (fun K hK => ?_) AllReadyH.nil
 (try simp only [jA, jB, jC])
 go_simp
 (go_at_call 158; refine (compare_int _ _ _).mono ?_; rintro e w' ⟨rfl, rfl⟩)
 refine hK.out _ _ ?_ (fun hHeld => ?_)
 focus ((try dsimp only); exact hHeld; done)
 clear hK K
 (try simp only [Act.put, jA, jB, jC, jD, jE, jF])
 have hnw := heap_alloc_new W1.drew (Obj.cells #[.int .i64 (sg1 a.1 b.1), .int .i64 (sg1 a.2 b.2)] 3 (0, 0))
 refine wpAnyH_ready (rs := [10]) (by decide +kernel) (by simp) ?_
 refine AllReadyH.cons rfl (fun K hK => ?_) AllReadyH.nil
 (try simp only [jA, jB, jC])
 go_simp
 refine hK.out _ _ ?_ (fun hHeld => ?_)
 focus ((try dsimp only); exact Hold.rd2 (Hold.alloc (Hold.drew HQ) _); done)
 clear hK K
 (try simp only [Act.put, jA, jB, jC, jD, jE, jF])
 refine wpAnyH_ready (rs := [11]) (by decide +kernel) (by simp) ?_
 refine AllReadyH.cons rfl (fun K hK => ?_) AllReadyH.nil
 (try simp only [jA, jB, jC])
 go_simp
 (go_at_call 157; refine (HO.out _ _ _ _ _ (blk_cell hnw 0) (blk_cell hnw 1)).mono ?_; rintro e w' ⟨rfl, rfl⟩)
 refine hK.out _ _ ?_ (fun hHeld => ?_)
 focus ((try dsimp only); exact Hold.rd2 (Hold.alloc (Hold.drew HQ) _); done)
 clear hK K
 (try simp only [Act.put, jA, jB, jC, jD, jE, jF])
 refine tZ 12 ?_
 refine wpAnyH_done (by decide +kernel) ?_ _
 go_wp2
 go_ret
 rw [HCX.out]
 exact ⟨rfl, (Hold.alloc (Hold.drew HQ) _).1⟩
end Go.Proofs.YtjlnjjmomohpaaaGreat
namespace Go.Proofs.YtjlnjjmomohpaaaGreat
open Go.RowKit

theorem add_zero_addr (a : Addr) : a.add 0 = a := by
 unfold Addr.add
 split <;> simp_all
theorem leastI_succ (ps : List (Int × Int)) (k : Nat) : leastI ps (k + 1) = if lessB (nx ps k) (nx ps (leastI ps k)) then k else leastI ps k := rfl
theorem keepF {w W : World} {g5 g4 : Nat} {m a : Int × Int} {c : Addr} {z : Array Value} {t4 : TypeId} (HC : c.block < w.heap.size ∧ w.cell? c = some (.int .i64 a.1) ∧ w.cell? ⟨c.block, c.off + 1, none⟩ = some (.int .i64 a.2))
  (h : Hold w [(g5, #[.int .i64 m.1, .int .i64 m.2], 56), (g4, z, t4)] W) : W.cell? ⟨g5, 0, none⟩ = some (.int .i64 m.1) ∧ W.cell? ⟨g5, 1, none⟩ = some (.int .i64 m.2) ∧ W.cell? c = some (.int .i64 a.1) ∧ W.cell? ⟨c.block, c.off + 1, none⟩ = some (.int .i64 a.2) :=
 ⟨h.top.1, h.top.2.1, h.far HC.1 HC.2.1, h.far HC.1 HC.2.2⟩

set_option maxRecDepth 100000 in
set_option maxHeartbeats 2000000 in
theorem min_any (ps : List (Int × Int)) (A : Option Addr) (cap : Nat) (h1 : 1 ≤ ps.length) (hn : ps.length ≤ 128) (w : World) (hr : Pts w w.heap.size A ps) :
  Calls Tryz.prog 127 #[.slice A ps.length cap, .func (.func 128) #[] #[]] w fun e w' => e = .returned (.agg #[.int .i64 (nx ps (leastI ps ps.length)).1, .int .i64 (nx ps (leastI ps ps.length)).2]) ∧ Below w.heap.size w w' := by
 have HQ := (Hold.refl w).new #[.int .i64 0, .int .i64 0] 56
 have HB := Lib.hid (fun a b W => byxy_any a b W)
 have HR := Lib.hid hr
 have h1' : ¬ (ps.length : Int) < 1 := by omega
 obtain ⟨ad, rfl, hadb, a0, a1⟩ := hr.nx HQ.1 (show 0 < ps.length by omega) (Nat.zero_mod _)
 have h0 : ¬ ps.length = 0 := by omega
 have z8 : ¬ ps = [] := fun e => h0 (by rw [e]; rfl)
 rw [Nat.zero_mul, add_zero_addr] at a0 a1
 have hpos : 0 < ps.length := by omega
 clear hr
 go_enter Tryz.func127, Tryz.ntmps127
 go_upto_region 4 with (fail)
 have HM := HQ.new' #[.int .i64 (nx ps 0).1, .int .i64 (nx ps 0).2] 56 (n := w.heap.size + 1) (by simp)
 generalize (World.alloc _ _) = W1 at HM ⊢
 generalize w.heap.size + 1 = g5 at HM ⊢
 clear a0 a1 HQ
 have HW : Hid (∃ g, w.heap.size = g) := Lib.hid ⟨_, rfl⟩
 have hl1 : leastI ps 1 = 0 := by rw [leastI_succ]; split <;> rfl
 go_wp2_with fail
 go_loopg [6] (ps.length - 1) (fun n i wr => ∃ k : Nat, 1 ≤ k ∧ k ≤ ps.length ∧ n = ps.length - k ∧ i = .int .i64 k ∧ Hold w [(g5, #[.int .i64 (nx ps (leastI ps k)).1, .int .i64 (nx ps (leastI ps k)).2], 56), (w.heap.size, #[.int .i64 0, .int .i64 0], 56)] wr)
 case atStart => exact ⟨1, Nat.le_refl _, h1, rfl, rfl, by rw [hl1]; exact HM⟩
 case round =>
  obtain ⟨k, hk1, hk, hgk, rfl, HT⟩ := hrel
  have hgk' := Lib.hid hgk
  clear hgk HM
  by_cases hlt : k < ps.length
  ·have hlt' : (k : Int) < (ps.length : Int) := by omega
   have b0 : (0 : Int) ≤ (k : Int) := by omega
   obtain ⟨ad', e', -, d0, d1⟩ := HR.out.nx (Below.refl _ w) hlt (Nat.mod_eq_of_lt hlt)
   obtain rfl := Option.some.inj e'
   have HC := Lib.hid (show (ad.add (k * 2)).block < w.heap.size ∧ w.cell? (ad.add (k * 2)) = some (.int .i64 (nx ps k).1) ∧ w.cell? ⟨(ad.add (k * 2)).block, (ad.add (k * 2)).off + 1, none⟩ = some (.int .i64 (nx ps k).2) from ⟨by rw [block_of_add]; exact hadb, d0, d1⟩)
   have HST := Lib.hid (leastI_succ ps k)
   have HLS := Lib.hid (cxy_less (nx ps k) (nx ps (leastI ps k)))
   have hx1 : IntKind.i64.wrap ((k : Int) + 1) = (k : Int) + 1 := wrap_in (by omega) (by omega)
   clear e' d0 d1
   obtain ⟨a, ha⟩ : ∃ a, nx ps k = a := ⟨_, rfl⟩
   obtain ⟨m, hm⟩ : ∃ m, nx ps (leastI ps k) = m := ⟨_, rfl⟩
   have HAA := Lib.hid ha
   have HMM := Lib.hid hm
   rw [hm] at HT HLS HST
   rw [ha] at HC HLS HST
   clear ha hm
   go_upto_region 7 with (fail)
   go_cut [27] (fun s27 wx => s27 = .bool (decide (cxy a m < 0)) ∧ Hold w [(g5, #[.int .i64 m.1, .int .i64 m.2], 56), (w.heap.size, #[.int .i64 0, .int .i64 0], 56)] wx)
   case first =>
    refine wp_region_held_drew (S := fun W => W.cell? ⟨g5, 0, none⟩ = some (.int .i64 m.1) ∧ W.cell? ⟨g5, 1, none⟩ = some (.int .i64 m.2) ∧ W.cell? (ad.add (k * 2)) = some (.int .i64 a.1) ∧ W.cell? ⟨(ad.add (k * 2)).block, (ad.add (k * 2)).off + 1, none⟩ = some (.int .i64 a.2)) (by kernel_rfl) (keepF HC.out (Hold.drew HT)) (fun hHeld => ?_)
    refine tZ 0 ?_; refine tZ 1 ?_; refine tZ 2 ?_; refine tZ 3 ?_; refine tZ 4 ?_; refine tZ 5 ?_
    refine wpAnyH_ready (rs := [6]) (by decide +kernel) (by simp) ?_
    refine AllReadyH.cons rfl (fun K hK => ?_) AllReadyH.nil
    (try simp only [jA, jB, jC])
    go_simp
    (go_at_call 128; refine (HB.out a m _).mono ?_; rintro e w' ⟨rfl, hB⟩; have HT' := Hold.on (Hold.drew HT) hB)
    refine hK.out _ _ ?_ (fun hHeld => ?_)
    focus ((try dsimp only); exact keepF HC.out HT'; done)
    clear hK K
    (try simp only [Act.put, jA, jB, jC, jD, jE, jF])
    refine tZ 7 ?_
    refine wpAnyH_done (by decide +kernel) ?_ _
    go_wp2_with fail
    go_meet
    exact ⟨rfl, HT'⟩
   case rest =>
    obtain ⟨rfl, HU⟩ := hcut
    clear HT
    by_cases hc : cxy a m < 0
    ·have hl := HLS.out.1 hc
     have HE : Hid (leastI ps (k + 1) = k) := Lib.hid (by rw [HST.out, hl]; rfl)
     obtain ⟨f0, f1⟩ := keepF HC.out HU |>.2.2
     obtain ⟨y0, y1, y2, y3⟩ := HU.top
     have HV := Lib.hid (HU.set2 (.int .i64 a.1) (.int .i64 a.2))
     clear HU hl HST
     go_wp2_with fail
     go_roundg (ps.length - (k + 1))
     case measure => have := hgk'.out; omega
     case rel => exact ⟨k + 1, by omega, by omega, rfl, by simp, by rw [HE.out, HAA.out]; exact HV.out⟩
    ·have hl : lessB a m = false := Bool.eq_false_iff.2 (fun h => hc (HLS.out.2 h))
     have HE : Hid (leastI ps (k + 1) = leastI ps k) := Lib.hid (by rw [HST.out, hl]; rfl)
     have HV := Lib.hid HU
     clear HU hl HST
     go_wp2_with fail
     go_roundg (ps.length - (k + 1))
     case measure => have := hgk'.out; omega
     case rel => exact ⟨k + 1, by omega, by omega, rfl, by simp, by rw [HE.out, HMM.out]; exact HV.out⟩
  ·obtain rfl : k = ps.length := by omega
   have hge : ¬ (ps.length : Int) < (ps.length : Int) := by omega
   obtain ⟨f0, f1, -, -⟩ := HT.top
   obtain ⟨y0, y1, y2, y3⟩ := HT.tail.top
   have HV := HT.swap2 (.int .i64 (nx ps (leastI ps ps.length)).1) (.int .i64 (nx ps (leastI ps ps.length)).2)
   obtain ⟨n1, n2, -, -⟩ := HV.tail.top
   have HK := Lib.hid HV.1
   clear HT HV
   go_wp2
   refine bodyPost_ret (v := .agg #[.int .i64 (nx ps (leastI ps ps.length)).1, .int .i64 (nx ps (leastI ps ps.length)).2]) ?_ rfl ⟨rfl, HK.out⟩
   simp [results, Tryz.results127, go_sem, n1, n2]

theorem keepI {w W : World} {g3 : Nat} {m a : Int × Int} {c : Addr} (HC : c.block < w.heap.size ∧ w.cell? c = some (.int .i64 a.1) ∧ w.cell? ⟨c.block, c.off + 1, none⟩ = some (.int .i64 a.2))
  (h : Hold w [(g3, #[.int .i64 m.1, .int .i64 m.2], 56)] W) : W.cell? ⟨g3, 0, none⟩ = some (.int .i64 m.1) ∧ W.cell? ⟨g3, 1, none⟩ = some (.int .i64 m.2) ∧ W.cell? c = some (.int .i64 a.1) ∧ W.cell? ⟨c.block, c.off + 1, none⟩ = some (.int .i64 a.2) :=
 ⟨h.top.1, h.top.2.1, h.far HC.1 HC.2.1, h.far HC.1 HC.2.2⟩
theorem pt_parts {p a : Int × Int} (h : p ≠ a) : (p.1 == a.1) = false ∨ ((p.1 == a.1) = true ∧ (p.2 == a.2) = false) := by
 by_cases h1 : p.1 = a.1
 ·exact .inr ⟨by simpa using h1, by simpa using fun h2 => h (Prod.ext h1 h2)⟩
 ·exact .inl (by simpa using h1)
set_option maxRecDepth 100000 in
set_option maxHeartbeats 2000000 in
theorem index_any (ps : List (Int × Int)) (A : Option Addr) (cap l : Nat) (m : Int × Int) (hl : l < ps.length) (hn : ps.length ≤ 128) (hm : nx ps l = m) (hd : ∀ i, i < l → m ≠ nx ps i) (w : World) (hr : Pts w w.heap.size A ps) :
  Calls Tryz.prog 126 #[.slice A ps.length cap, .agg #[.int .i64 m.1, .int .i64 m.2]] w fun e w' => e = .returned (.int .i64 (l : Int)) ∧ Below w.heap.size w w' := by
 have HQ := (Hold.refl w).new #[.int .i64 m.1, .int .i64 m.2] 56
 have HR := Lib.hid hr
 obtain ⟨ad, rfl, hadb, -, -⟩ := hr.nx (Below.refl _ w) hl (Nat.mod_eq_of_lt hl)
 have HML := Lib.hid hm
 have HD := Lib.hid hd
 clear hr hm hd
 go_enter Tryz.func126, Tryz.ntmps126
 go_wp2_with fail
 generalize (World.alloc _ _) = W1 at HQ ⊢
 go_loopg [8] (l + 1) (fun n i wr => ∃ k : Nat, k ≤ l ∧ n = l + 1 - k ∧ i = .int .i64 k ∧ Hold w [(w.heap.size, #[.int .i64 m.1, .int .i64 m.2], 56)] wr)
 case atStart => exact ⟨0, Nat.zero_le _, rfl, rfl, HQ⟩
 case round =>
  obtain ⟨k, hk, hgk, rfl, HT⟩ := hrel
  have hgk' := Lib.hid hgk
  clear hgk HQ
  have hlt : k < ps.length := by omega
  have hlt' : (k : Int) < (ps.length : Int) := by omega
  have b0 : (0 : Int) ≤ (k : Int) := by omega
  obtain ⟨ad', e', -, d0, d1⟩ := HR.out.nx (Below.refl _ w) hlt (Nat.mod_eq_of_lt hlt)
  obtain rfl := Option.some.inj e'
  have HC := Lib.hid (show (ad.add (k * 2)).block < w.heap.size ∧ w.cell? (ad.add (k * 2)) = some (.int .i64 (nx ps k).1) ∧ w.cell? ⟨(ad.add (k * 2)).block, (ad.add (k * 2)).off + 1, none⟩ = some (.int .i64 (nx ps k).2) from ⟨by rw [block_of_add]; exact hadb, d0, d1⟩)
  have hx1 : IntKind.i64.wrap ((k : Int) + 1) = (k : Int) + 1 := wrap_in (by omega) (by omega)
  clear e' d0 d1
  by_cases hkl : k = l
  ·subst hkl
   rw [HML.out] at HC
   obtain ⟨a, ha⟩ : ∃ a, m = a := ⟨_, rfl⟩
   have HAM := Lib.hid ha
   have HC' : Hid ((ad.add (k * 2)).block < w.heap.size ∧ w.cell? (ad.add (k * 2)) = some (.int .i64 a.1) ∧ w.cell? ⟨(ad.add (k * 2)).block, (ad.add (k * 2)).off + 1, none⟩ = some (.int .i64 a.2)) := by rw [← ha]; exact HC
   have e1 : (m.1 == a.1) = true := by rw [ha]; simp
   have e2 : (m.2 == a.2) = true := by rw [ha]; simp
   clear HC ha
   have HC := HC'
   clear HC'
   go_upto_region 4 with (fail)
   refine wp_region_held_drew (S := fun W => W.cell? ⟨w.heap.size, 0, none⟩ = some (.int .i64 m.1) ∧ W.cell? ⟨w.heap.size, 1, none⟩ = some (.int .i64 m.2) ∧ W.cell? (ad.add (k * 2)) = some (.int .i64 a.1) ∧ W.cell? ⟨(ad.add (k * 2)).block, (ad.add (k * 2)).off + 1, none⟩ = some (.int .i64 a.2)) (by kernel_rfl) (keepI HC.out (Hold.drew HT)) (fun hHeld => ?_)
   refine tZ 0 ?_; refine tZ 1 ?_; refine tZ 2 ?_; refine tZ 3 ?_; refine tZ 4 ?_; refine tZ 5 ?_
   refine wpAnyH_done (by decide +kernel) ?_ _
   have HK := Lib.hid HT.1.drew
   clear HT
   go_wp2
   go_ret
   exact ⟨rfl, HK.out⟩
  ·have hne := HD.out k (by omega)
   obtain ⟨a, ha⟩ : ∃ a, nx ps k = a := ⟨_, rfl⟩
   rw [ha] at HC hne
   have HK := Lib.hid HT.drew
   rcases pt_parts hne with e1 | ⟨e1, e2⟩
   ·clear ha hne
    go_upto_region 4 with (fail)
    refine wp_region_held_drew (S := fun W => W.cell? ⟨w.heap.size, 0, none⟩ = some (.int .i64 m.1) ∧ W.cell? ⟨w.heap.size, 1, none⟩ = some (.int .i64 m.2) ∧ W.cell? (ad.add (k * 2)) = some (.int .i64 a.1) ∧ W.cell? ⟨(ad.add (k * 2)).block, (ad.add (k * 2)).off + 1, none⟩ = some (.int .i64 a.2)) (by kernel_rfl) (keepI HC.out (Hold.drew HT)) (fun hHeld => ?_)
    refine tZ 0 ?_; refine tZ 1 ?_; refine tZ 2 ?_; refine tZ 3 ?_; refine tZ 4 ?_; refine tZ 5 ?_
    refine wpAnyH_done (by decide +kernel) ?_ _
    clear HT
    go_wp2
    go_roundg (l + 1 - (k + 1))
    case measure => have := hgk'.out; omega
    case rel => exact ⟨k + 1, by omega, rfl, by simp, HK.out⟩
   ·clear ha hne
    go_upto_region 4 with (fail)
    refine wp_region_held_drew (S := fun W => W.cell? ⟨w.heap.size, 0, none⟩ = some (.int .i64 m.1) ∧ W.cell? ⟨w.heap.size, 1, none⟩ = some (.int .i64 m.2) ∧ W.cell? (ad.add (k * 2)) = some (.int .i64 a.1) ∧ W.cell? ⟨(ad.add (k * 2)).block, (ad.add (k * 2)).off + 1, none⟩ = some (.int .i64 a.2)) (by kernel_rfl) (keepI HC.out (Hold.drew HT)) (fun hHeld => ?_)
    refine tZ 0 ?_; refine tZ 1 ?_; refine tZ 2 ?_; refine tZ 3 ?_; refine tZ 4 ?_; refine tZ 5 ?_
    refine wpAnyH_done (by decide +kernel) ?_ _
    clear HT
    go_wp2
    go_roundg (l + 1 - (k + 1))
    case measure => have := hgk'.out; omega
    case rel => exact ⟨k + 1, by omega, rfl, by simp, HK.out⟩
end Go.Proofs.YtjlnjjmomohpaaaGreat
namespace Go.Proofs.YtjlnjjmomohpaaaGreat
open Go.RowKit

def growRen : Go.Shelf.Ren := ⟨fun | 4 => 159 | n => n, fun | 0 => 0 | 3 => 3 | 4 => 4 | 9 => 9 | 20 => 20 | 22 => 23 | 25 => 56 | n => n, fun | n => n⟩
theorem growLays : Lays8.n4 Tryz.prog growRen := {
 mixed := by kernel_rfl
 f4 := ⟨"slices.Grow[merestone/api.Ring,merestone/api.Point]", of_decide_eq_true (by kernel_rfl), Tryz.func159.trans (congrArg some (by kernel_rfl))⟩
 t0 := Tryz.underlying0
 a0 := Tryz.isAgg0
 z0 := Tryz.sizeOf0
 v0 := Tryz.zeroValue0
 t3 := Tryz.underlying3
 a3 := Tryz.isAgg3
 z3 := Tryz.sizeOf3
 v3 := Tryz.zeroValue3
 t4 := Tryz.underlying4
 a4 := Tryz.isAgg4
 z4 := Tryz.sizeOf4
 v4 := Tryz.zeroValue4
 t9 := Tryz.underlying9
 a9 := Tryz.isAgg9
 z9 := Tryz.sizeOf9
 v9 := Tryz.zeroValue9
 t20 := Tryz.underlying20
 a20 := Tryz.isAgg20
 z20 := Tryz.sizeOf20
 v20 := Tryz.zeroValue20
 t22 := Tryz.underlying23
 a22 := Tryz.isAgg23
 z22 := Tryz.sizeOf23
 v22 := Tryz.zeroValue23 }
theorem grow_any (n : Nat) (h0 : 0 < n) (hn : n ≤ 1000) (w : World) :
  Calls Tryz.prog 159 #[.slice none 0 0, .int .i64 n] w fun e w' => ∃ v, e = .returned v ∧ Row w v [] w' := by
 obtain ⟨i0, hi, hz0, hz1, hz2⟩ := info_parts infoP
 have h : Calls Tryz.prog 159 #[.slice none 0 0, .int .i64 n] w _ := Any8.slices_Grow_grow growLays i0 _ hi hz0 (by rw [hz1]; omega) none 0 0 n [] w (Nat.le_refl _) (by omega) (by rw [hz2]; omega) (by omega) (by simp) (fun _ => rfl) (fun a h => by cases h)
 refine h.mono ?_
 rintro e w' ⟨rfl, rfl⟩
 have hge := Go.grownCap_ge w (0 + n) 0 56
 refine ⟨_, rfl, ((Below.refl _ w).drew).alloc (Nat.le_refl _) _, ?_⟩
 refine World.ownsRow_made w.drew _ _ (Nat.le_refl _) (Go.grownCap_le_maxLen w (0 + n) 0 56 (by unfold maxLen; omega)) ?_
 have hz : (Value.agg #[.int .i64 0, .int .i64 0]).cells.size = 2 := rfl
 have e25 : growRen.t 25 = 56 := rfl
 simp only [Nat.zero_add] at hge ⊢
 simp only [Array.size_append, Go.size_zeroCells, hz, e25, Nat.sub_zero]
 generalize grownCap w n 0 56 = c at *
 simp
 omega

set_option maxRecDepth 100000 in
set_option maxHeartbeats 2000000 in
theorem concat_any (ps qs : List (Int × Int)) (A1 A2 : Option Addr) (c1 c2 g cap : Nat) (h0 : 0 < ps.length) (hn : ps.length + qs.length ≤ 1000) (hn1 : NilOk A1 c1) (hn2 : NilOk A2 c2) (w : World)
  (d0 : w.cell? ⟨g, 0, none⟩ = some (.slice A1 ps.length c1)) (d1 : w.cell? ⟨g, 1, none⟩ = some (.slice A2 qs.length c2)) (hp : Pts w w.heap.size A1 ps) (hq : Pts w w.heap.size A2 qs) :
  Calls Tryz.prog 129 #[.slice (some ⟨g, 0, none⟩) 2 cap] w fun e w' => ∃ v, e = .returned v ∧ Row w v (ps ++ qs) w' := by
 have hgl : g < w.heap.size := by
  have := World.block_lt_of_cell? w _ d0
  exact this
 have HP := Lib.hid hp
 have HQ := Lib.hid hq
 have HN1 := Lib.hid hn1
 have HN2 := Lib.hid hn2
 have hgr := fun w => grow_any (ps.length + qs.length) (by omega) hn w
 simp only [Int.natCast_add] at hgr
 have HG := Lib.hid hgr
 clear hgr
 have hx1 : IntKind.i64.wrap ((ps.length : Int) + (qs.length : Int)) = (ps.length : Int) + (qs.length : Int) := wrap_in (by omega) (by omega)
 have hx2 : ¬ ((ps.length : Int) + (qs.length : Int) < 0) := by omega
 have hx3 : ¬ ((ps.length : Int) < 0) := by omega
 have hx4 : IntKind.i64.wrap (ps.length : Int) = (ps.length : Int) := wrap_in (by omega) (by omega)
 clear hp hq hn1 hn2
 go_enter Tryz.func129, Tryz.ntmps129
 go_wp2_with fail
 go_loopg [3, 11] 2 (fun n sz i wr => ∃ k : Nat, k ≤ 2 ∧ n = 2 - k ∧ i = .int .i64 k ∧ wr = w ∧ ((k = 0 ∧ sz = .int .i64 0) ∨ (k = 1 ∧ sz = .int .i64 ps.length) ∨ (k = 2 ∧ sz = .int .i64 ((ps.length : Int) + (qs.length : Int)))))
 case atStart => exact ⟨0, by omega, by omega, rfl, rfl, .inl ⟨rfl, rfl⟩⟩
 case round =>
  obtain ⟨k, hk, hgk, rfl, rfl, ⟨rfl, rfl⟩ | ⟨rfl, rfl⟩ | ⟨rfl, rfl⟩⟩ := hrel
  ·have hgk' := Lib.hid hgk
   clear hgk
   go_wp2_with fail
   go_roundg 1
   case measure => have := hgk'.out; omega
   case rel => exact ⟨1, by omega, by omega, rfl, rfl, .inr (.inl ⟨rfl, rfl⟩)⟩
  ·have hgk' := Lib.hid hgk
   clear hgk
   go_wp2_with fail
   go_roundg 0
   case measure => have := hgk'.out; omega
   case rel => exact ⟨2, by omega, by omega, rfl, rfl, .inr (.inr ⟨rfl, rfl⟩)⟩
  ·clear hgk
   go_wp2_with fail
   go_at_call 159
   refine (HG.out _).mono ?_
   rintro e w2 ⟨v0, rfl, HR0⟩
   clear HG
   go_wp2_with fail
   go_loopg [6, 27] 2 (fun n v i wx => ∃ k : Nat, k ≤ 2 ∧ n = 2 - k ∧ i = .int .i64 k ∧ ((k = 0 ∧ Row wr v [] wx) ∨ (k = 1 ∧ Row wr v ps wx) ∨ (k = 2 ∧ Row wr v (ps ++ qs) wx)))
   case atStart => exact ⟨0, by omega, by omega, rfl, .inl ⟨rfl, HR0⟩⟩
   case round =>
    obtain ⟨k, hk, hgk, rfl, ⟨rfl, HV⟩ | ⟨rfl, HV⟩ | ⟨rfl, HV⟩⟩ := hrel
    ·have hgk' := Lib.hid hgk
     clear hgk HR0
     have f0 := (HV.1.cell (p := ⟨g, 0, none⟩) hgl).trans d0
     have HA := Lib.hid (HP.out.on HV.1)
     go_wp2_with (at_builtin; go_must (refine append_pts 23 Tryz.underlying23 HV ps A1 c1 HA.out HN1.out (by simp; omega) rfl _ _ rfl (by rfl) (by rfl) ?_; rintro v8 w8 HR8))
     go_roundg 1
     case measure => have := hgk'.out; omega
     case rel => exact ⟨1, by omega, by omega, rfl, .inr (.inl ⟨rfl, HR8⟩)⟩
    ·have hgk' := Lib.hid hgk
     clear hgk HR0
     have f0 := (HV.1.cell (p := ⟨g, 1, none⟩) hgl).trans d1
     have HA := Lib.hid (HQ.out.on HV.1)
     go_wp2_with (at_builtin; go_must (refine append_pts 23 Tryz.underlying23 HV qs A2 c2 HA.out HN2.out (by omega) rfl _ _ rfl (by rfl) (by rfl) ?_; rintro v8 w8 HR8))
     go_roundg 0
     case measure => have := hgk'.out; omega
     case rel => exact ⟨2, by omega, by omega, rfl, .inr (.inr ⟨rfl, HR8⟩)⟩
    ·clear hgk
     go_wp2_with fail
     go_ret
     exact ⟨_, rfl, HV⟩
end Go.Proofs.YtjlnjjmomohpaaaGreat
namespace Go.Proofs.YtjlnjjmomohpaaaGreat
open Go.RowKit

theorem rotL_dt {ps : List (Int × Int)} {l : Nat} (hl : l < ps.length) : ps.drop l ++ ps.take l = rotL ps l := by
 apply List.ext_getElem?
 intro i
 have hlen : (ps.drop l ++ ps.take l).length = ps.length := by rw [List.length_append, List.length_drop, List.length_take]; omega
 by_cases hi : i < ps.length
 ·have := nx_dt hl i
  rw [nx_lt (by rw [hlen]; exact hi)] at this
  rw [rotL_get ps l i hi, List.getElem?_eq_getElem (by rw [hlen]; exact hi), this, Nat.add_comm]
 ·rw [List.getElem?_eq_none (by rw [hlen]; omega), List.getElem?_eq_none (by rw [rotL_length]; omega)]
theorem leastI_lt (ps : List (Int × Int)) : ∀ k, leastI ps (k + 1) ≤ k
 |0 => by rw [leastI_succ]; split <;> exact Nat.le_refl _
 |k + 1 => by
  rw [leastI_succ]
  have := leastI_lt ps k
  split <;> omega
theorem Row.full {w0 W : World} {ps : List (Int × Int)} {v : Value} (h : Row w0 v ps W) : ∃ A cap, v = .slice A ps.length cap ∧ Pts W W.heap.size A ps ∧ NilOk A cap ∧ ps.length ≤ cap := by
 obtain ⟨A, cap, rfl, hp, hn⟩ := h.nilOk
 refine ⟨A, cap, rfl, hp, hn, ?_⟩
 rcases h.2.2 with ⟨e, h0⟩ | ⟨g, cap', cur, e, -, -, hle, -⟩
 ·omega
 ·have := (Value.slice.inj e).2.2
  omega

set_option maxRecDepth 100000 in
set_option maxHeartbeats 2000000 in
theorem Norm_any (ps : List (Int × Int)) (A : Option Addr) (cap : Nat) (hn : ps.length ≤ maxLen) (hcap : ps.length ≤ cap) (w : World) (hr : Pts w w.heap.size A ps) :
  Calls Tryz.prog 94 #[.slice A ps.length cap] w fun e w' => ∃ v, e = .returned (.tuple #[v, .int .i64 (chE ps)]) ∧ Row w v (nmL ps) w' := by
 have HC := Lib.hid (Check_any ps A cap hn w hr)
 by_cases hc : chE ps = 0
 ·obtain ⟨hae, hso⟩ := chE_zero.1 hc
  obtain ⟨hl2, hgl⟩ := arE_zero.1 hae
  have h3 := hso.1
  obtain ⟨l, hl⟩ : ∃ l, leastI ps ps.length = l := ⟨_, rfl⟩
  have hlt : l < ps.length := by
   have := leastI_lt ps (ps.length - 1)
   rw [show ps.length - 1 + 1 = ps.length by omega] at this
   omega
  have HNM : Hid (nmL ps = ps.drop l ++ ps.take l) := Lib.hid (by unfold nmL; rw [if_pos hc, hl, rotL_dt hlt])
  have hdis : ∀ i, i < l → nx ps l ≠ nx ps i := fun i hi e => ((sound_iff.1 hso).2.2 i l hi hlt).1 e.symm
  have hmin := fun W (hb : Below w.heap.size w W) => min_any ps A cap (by omega) hl2 W (hr.on hb)
  rw [hl] at hmin
  have HMIN := Lib.hid hmin
  have HIDX := Lib.hid (fun W (hb : Below w.heap.size w W) => index_any ps A cap l (nx ps l) hlt hl2 rfl hdis W (hr.on hb))
  have HR := Lib.hid hr
  have hld : (ps.drop l).length = ps.length - l := List.length_drop
  have hlk : (ps.take l).length = l := by rw [List.length_take]; omega
  obtain ⟨ad, rfl, hadb, -, -⟩ := hr.nx (Below.refl _ w) hlt (Nat.mod_eq_of_lt hlt)
  have hcon := fun g c W (hb : Below w.heap.size w W) d0 d1 => concat_any (ps.drop l) (ps.take l) (some (ad.add (l * 2))) (some ad) (cap - l) cap g c (by omega) (by rw [hld, hlk]; omega) (fun e => by cases e) (fun e => by cases e) W d0 d1 ((Pts.drop hr hlt).on hb) (Pts.take l (hr.on hb))
  rw [hld, hlk] at hcon
  have HCON := Lib.hid hcon
  have b0 : (0 : Int) ≤ (l : Int) := by omega
  have b1 : (l : Int) ≤ (ps.length : Int) := by omega
  have b2 : (l : Int) ≤ (cap : Int) := by omega
  have b3 : (ps.length : Int) ≤ (cap : Int) := by omega
  have b4 : l < cap := by omega
  have b5 : ¬ cap = l := by omega
  have b6 : l ≤ ps.length := by omega
  have b7 : ps.length ≤ cap := hcap
  have b8 : l ≤ cap := by omega
  clear hr hdis hmin hso hcon hld hlk
  rw [hc] at HC ⊢
  generalize nx ps l = m at *
  go_enter Tryz.func94, Tryz.ntmps94
  go_wp2_with (first
   |(go_at_call 101; go_must (with_reducible refine (HC.out).mono ?_; rintro e w1 ⟨rfl, hB⟩))
   |(go_at_call 127; go_must (with_reducible refine (HMIN.out _ hB).mono ?_; rintro e w2 ⟨rfl, hB2⟩; have hB3 := hB.trans (hB2.mono hB.size)))
   |(go_at_call 126; go_must (with_reducible refine (HIDX.out _ hB3).mono ?_; rintro e w3 ⟨rfl, hB4⟩; have hB5 := hB3.trans (hB4.mono hB3.size))))
  have hnw := heap_alloc_new w3.drew (Obj.cells #[.slice (some (ad.add (l * 2))) (ps.length - l) (cap - l), .slice (some ad) l cap] 23 (0, 0))
  have hb6 : Below w.heap.size w (w3.drew.alloc (Obj.cells #[.slice (some (ad.add (l * 2))) (ps.length - l) (cap - l), .slice (some ad) l cap] 23 (0, 0))) := hB5.drew.alloc hB5.drew.size _
  refine wp_region_held_drew (S := fun _ => True) (by kernel_rfl) trivial (fun hHeld => ?_)
  refine tZ 0 ?_; refine tZ 1 ?_; refine tZ 2 ?_; refine tZ 3 ?_; refine tZ 4 ?_; refine tZ 5 ?_
  refine wpAnyH_ready (rs := [6]) (by decide +kernel) (by simp) ?_
  refine AllReadyH.cons rfl (fun K hK => ?_) AllReadyH.nil
  (try simp only [jA, jB, jC])
  go_simp
  refine hK.out _ _ ?_ (fun hHeld => ?_)
  focus ((try dsimp only); all_goals trivial; done)
  clear hK K
  (try simp only [Act.put, jA, jB, jC, jD, jE, jF])
  refine wpAnyH_ready (rs := [7]) (by decide +kernel) (by simp) ?_
  refine AllReadyH.cons rfl (fun K hK => ?_) AllReadyH.nil
  (try simp only [jA, jB, jC])
  go_simp
  (go_at_call 129; refine (HCON.out _ _ _ hb6 (blk_cell hnw 0) (blk_cell hnw 1)).mono ?_; rintro e w' ⟨v, rfl, HV⟩)
  refine hK.out _ _ ?_ (fun hHeld => ?_)
  focus ((try dsimp only); all_goals trivial; done)
  clear hK K
  (try simp only [Act.put, jA, jB, jC, jD, jE, jF])
  refine tZ 8 ?_; refine tZ 9 ?_
  refine wpAnyH_done (by decide +kernel) ?_ _
  go_wp2
  go_ret2
  refine ⟨_, rfl, hb6.trans (HV.1.mono hb6.size), ?_⟩
  rw [HNM.out]
  refine ⟨HV.2.1, HV.2.2.imp id ?_⟩
  rintro ⟨g, c, cur, hv, hg, hrest⟩
  exact ⟨g, c, cur, hv, Nat.le_trans hb6.size hg, hrest⟩
 ·have HNM : Hid (nmL ps = []) := Lib.hid (by unfold nmL; rw [if_neg hc])
  generalize chE ps = c at *
  go_enter Tryz.func94, Tryz.ntmps94
  go_wp2_with (go_at_call 101; go_must (with_reducible refine (HC.out).mono ?_; rintro e w1 ⟨rfl, hB⟩))
  go_ret2
  exact ⟨_, rfl, by rw [HNM.out]; exact Row.nil hB⟩
end Go.Proofs.YtjlnjjmomohpaaaGreat
