/- The document's ring with a corner more, if the point lies within an edge. -/
import Derived.Test.YtfjfmieadedjoaaGreatCutV
import Derived.Test.YtfjfmieadedjoaaGreatRefFine
import Derived.Test.YtfjfmieadedjoaaGreatPlanB
namespace Go.Proofs.YtfjfmieadedjoaaGreat
open Go.RowKit

def wthK (r : List (Int × Int)) (p : Int × Int) : Nat → List (Int × Int)
 |0 => []
 |k + 1 => wthK r p k ++ (nx r k :: (if onB (nx r k) (nx r (k + 1)) p = true then [p] else []))
theorem take_nx {r : List (Int × Int)} {k : Nat} (h : k < r.length) : r.take (k + 1) = r.take k ++ [nx r k] := by
 rw [List.take_succ_eq_append_getElem h, nx_lt h]
theorem on_ins {r : List (Int × Int)} {p : Int × Int} (hp : p ∉ r) {k : Nat} (hk : k < r.length) : onB (nx r k) (nx r (k + 1)) p = true ↔ Ins (nx r k) (nx r (k + 1)) p := by
 rw [onB_iff]
 exact ⟨fun h => ⟨h, fun e => hp (e ▸ nx_memC (by omega) k), fun e => hp (e ▸ nx_memC (by omega) (k + 1))⟩, fun h => h.1⟩
theorem wthK_putC {r : List (Int × Int)} {p : Int × Int} (hs : Sound r) (hp : p ∉ r) : wthK r p r.length = putC r p := by
 rcases putC_cases r p with e | ⟨k, hk, hi, e⟩
 ·rw [e]
  have hno : ∀ i, i < r.length → ¬ Ins (nx r i) (nx r (i + 1)) p := fun i hi hins => by
   have h1 := putC_at hs hi hins
   rw [e] at h1
   have h2 := congrArg List.length h1
   rw [mark_length hi] at h2
   omega
  have key : ∀ i, i ≤ r.length → wthK r p i = r.take i := fun i => by
   induction i with
   |zero => intro _; simp [wthK]
   |succ i ih =>
    intro h
    rw [wthK, ih (by omega), if_neg (fun hh => hno i h ((on_ins hp h).1 hh)), take_nx h]
  rw [key _ (Nat.le_refl _), List.take_length]
 ·rw [e]
  obtain ⟨n1, n2, n3⟩ := nx_mark hk p
  have hl := mark_length hk p
  have hno : ∀ i, i < r.length → i ≠ k → ¬ onB (nx r i) (nx r (i + 1)) p = true := fun i h hne hh => hne (ins_alone hs hk h hi (onB_iff.1 hh))
  have key : ∀ i, i ≤ r.length → wthK r p i = (mark r k p).take (if i ≤ k then i else i + 1) := fun i => by
   induction i with
   |zero => intro _; rw [if_pos (Nat.zero_le _)]; simp [wthK]
   |succ i ih =>
    intro h
    rw [wthK, ih (by omega)]
    rcases Nat.lt_trichotomy i k with hh | hh | hh
    ·rw [if_neg (hno i h (by omega)), if_pos (show i ≤ k by omega), if_pos (show i + 1 ≤ k by omega), take_nx (by omega), n1 i (by omega)]
    ·subst hh
     rw [if_pos ((on_ins hp h).2 hi), if_pos (Nat.le_refl i), if_neg (show ¬ i + 1 ≤ i by omega), take_nx (k := i + 1) (by omega), take_nx (k := i) (by omega), n2, n1 i (Nat.le_refl _)]
     simp
    ·rw [if_neg (hno i h (by omega)), if_neg (show ¬ i ≤ k by omega), if_neg (show ¬ i + 1 ≤ k by omega), take_nx (k := i + 1) (by omega), n3 i hh (by omega)]
  rw [key _ (Nat.le_refl _), if_neg (by omega), List.take_of_length_le (by omega)]
theorem wthK_len (r : List (Int × Int)) (p : Int × Int) : ∀ k, (wthK r p k).length ≤ 2 * k
 |0 => Nat.le_refl _
 |k + 1 => by
  have := wthK_len r p k
  rw [wthK, List.length_append, List.length_cons]
  split <;> simp <;> omega
set_option maxRecDepth 100000 in
set_option maxHeartbeats 2000000 in
theorem ref_with (ps : List (Int × Int)) (A : Option Addr) (cap : Nat) (p : Int × Int) (hs : Sound ps) (hg : gdL ps = true) (hp : Gd p) (hn : ps.length ≤ 1000) (w : World) (hr : Pts w w.heap.size A ps) :
  Calls Tryz.prog 64 #[.slice A ps.length cap, .agg #[.int .i64 p.1, .int .i64 p.2]] w fun e w' => ∃ v, e = .returned v ∧ ((v = .slice A ps.length cap ∧ putC ps p = ps ∧ Below w.heap.size w w') ∨ Row w v (putC ps p) w') := by
 have h3 : 3 ≤ ps.length := hs.1
 have HRA := Lib.hid (fun K W (h : Hold w K W) (k i : Nat) (hk : k < ps.length) (hi : i % ps.length = k) => hr.nx h.1 hk hi)
 have HIN := Lib.hid (fun K W (h : Hold w K W) => ref_in ps A cap p (by omega) W (hr.on h.1))
 have HON := Lib.hid (fun i W => ref_on (nx ps i) (nx ps (i + 1)) p (nx_gd hg (by omega) i) (nx_gd hg (by omega) (i + 1)) hp W)
 have HS := Lib.hid hs
 have HNB : Hid (ps.length ≤ 1000) := hn
 have HH3 : Hid (3 ≤ ps.length) := h3
 have HQ := (Hold.refl w).new #[.int .i64 p.1, .int .i64 p.2] 28
 clear hr hs hg hp h3
 go_enter Tryz.func64, Tryz.ntmps64
 go_upto_region 1 with (fail)
 generalize (World.alloc _ _) = W1 at HQ ⊢
 obtain ⟨g0, hg0⟩ : ∃ g, w.heap.size = g := ⟨_, rfl⟩
 have HG0 := Lib.hid hg0
 rw [hg0] at HQ ⊢
 clear hg0
 obtain ⟨c0, c1⟩ := HQ.pt (.head _)
 have HQ1 := Lib.hid HQ
 clear HQ
 go_wp2_with fail
 go_at_call 20
 refine (HIN.out _ _ HQ1.out).mono ?_
 rintro e' W2 ⟨n, rfl, hpl, hB⟩
 have hq2 := HQ1.out.on hB
 have HQ2 := Lib.hid hq2
 clear c0 c1 hB hq2 HIN
 by_cases hmem : p ∈ ps
 ·have hpos := hpl.pos.2 hmem
  have HE := Lib.hid (putC_in HS.out hmem)
  clear hpl hmem
  go_wp2
  go_ret
  exact ⟨_, rfl, .inl ⟨rfl, HE.out, HQ2.out.1⟩⟩
 ·have hpos : ¬ 0 ≤ n := fun h => hmem (hpl.pos.1 h)
  have HM := Lib.hid hmem
  have HR0 : Row W2 (.slice none 0 0) [] W2 := Row.nil (Below.refl _ _)
  clear hpl hmem
  go_wp2_with fail
  go_loopg [5, 6] ps.length (fun g v i wr => ∃ k : Nat, k ≤ ps.length ∧ g = ps.length - k ∧ i = .int .i64 k ∧ Row W2 v (wthK ps p k) wr)
  case atStart => exact ⟨0, Nat.zero_le _, rfl, rfl, HR0⟩
  case round =>
   clear HR0
   obtain ⟨k, hk, hgk, rfl, HV⟩ := hrel
   have HGK := Lib.hid hgk
   clear hgk
   by_cases hlt : k < ps.length
   ·obtain ⟨jn, hjn, hmod, -, htm⟩ := next_place hlt
    obtain ⟨ad, hA, -, d0, d1⟩ := HRA.out _ _ (HQ2.out.on HV.1) k k hlt (Nat.mod_eq_of_lt hlt)
    subst hA
    have HRX : Hid (∀ W, Below W2.heap.size W2 W → (W.cell? ⟨g0, 0, none⟩ = some (.int .i64 p.1) ∧ W.cell? ⟨g0, 1, none⟩ = some (.int .i64 p.2)) ∧ (W.cell? (ad.add (k * 2)) = some (.int .i64 (nx ps k).1) ∧ W.cell? ⟨(ad.add (k * 2)).block, (ad.add (k * 2)).off + 1, none⟩ = some (.int .i64 (nx ps k).2)) ∧ (W.cell? (ad.add (jn * 2)) = some (.int .i64 (nx ps (k + 1)).1) ∧ W.cell? ⟨(ad.add (jn * 2)).block, (ad.add (jn * 2)).off + 1, none⟩ = some (.int .i64 (nx ps (k + 1)).2))) := fun W hb => by
     have hh := HQ2.out.on hb
     obtain ⟨a1, e1, -, x0, x1⟩ := HRA.out _ _ hh k k hlt (Nat.mod_eq_of_lt hlt)
     obtain rfl := Option.some.inj e1
     obtain ⟨a2, e2, -, x2, x3⟩ := HRA.out _ _ hh jn (k + 1) hjn hmod
     obtain rfl := Option.some.inj e2
     exact ⟨hh.pt (.head _), ⟨x0, x1⟩, x2, x3⟩
    have HW1 : Hid (wthK ps p (k + 1) = wthK ps p k ++ (nx ps k :: (if onB (nx ps k) (nx ps (k + 1)) p = true then [p] else []))) := rfl
    have HLN : Hid ((wthK ps p k).length ≤ 3000) := by have := wthK_len ps p k; have := HNB.out; unfold Hid; omega
    have HOX := Lib.hid (HON.out k)
    have b0 : (0 : Int) ≤ (k : Int) := by omega
    have b1 : (k : Int) < (ps.length : Int) := by omega
    have b2 : (0 : Int) ≤ (jn : Int) := by omega
    have b3 : (jn : Int) < (ps.length : Int) := by omega
    have b4 : ¬ ps.length = 0 := by omega
    have b5 : ¬ ps = [] := fun e => by rw [e] at b4; exact b4 rfl
    have b6 : IntKind.i64.wrap ((k : Int) + 1) = (k : Int) + 1 := by have := HNB.out; rw [IntKind.wrap_i64]; omega
    have b7 : (ps.length : Int) ≤ 1000 := by have := HNB.out; omega
    clear hmod HRA HON
    generalize hgx : nx ps k = a at *
    generalize hgy : nx ps (k + 1) = b at *
    clear hgx hgy
    generalize wthK ps p k = qs at *
    have HNQ : Hid (qs.length ≤ 1000000000) := by have := HLN.out; unfold Hid; omega
    have HNQ1 : Hid ((qs ++ [a]).length ≤ 1000000000) := by have := HLN.out; unfold Hid; rw [List.length_append]; simp; omega
    go_upto_region 8 with (at_builtin; refine append_pt _ Tryz.underlying23 HV HNQ.out a _ rfl _ _ rfl rfl _ rfl ?_; rintro v' w2 HR2)
    have HR3 := Lib.hid HR2
    clear d0 d1 HV HR2
    go_cut [38] (fun s wx => s = .bool (onB a b p) ∧ Row W2 v' (qs ++ [a]) wx)
    case first =>
     have hv := HR3.out.drew
     refine wp_region_held_drew (S := fun W => (W.cell? ⟨g0, 0, none⟩ = some (.int .i64 p.1) ∧ W.cell? ⟨g0, 1, none⟩ = some (.int .i64 p.2)) ∧ (W.cell? (ad.add (k * 2)) = some (.int .i64 a.1) ∧ W.cell? ⟨(ad.add (k * 2)).block, (ad.add (k * 2)).off + 1, none⟩ = some (.int .i64 a.2)) ∧ (W.cell? (ad.add (jn * 2)) = some (.int .i64 b.1) ∧ W.cell? ⟨(ad.add (jn * 2)).block, (ad.add (jn * 2)).off + 1, none⟩ = some (.int .i64 b.2))) (by kernel_rfl) ?_ (fun hHeld => ?_)
     ·(try dsimp only)
      exact HRX.out _ hv.1
     refine tZ 0 ?_; refine tZ 1 ?_; refine tZ 2 ?_; refine tZ 3 ?_; refine tZ 4 ?_; refine tZ 5 ?_; refine tZ 6 ?_; refine tZ 7 ?_; refine tZ 8 ?_; refine tZ 9 ?_; refine tZ 10 ?_; refine tZ 11 ?_; refine tZ 12 ?_
     refine wpAnyH_ready (rs := [13]) (by decide +kernel) (by simp) ?_
     refine AllReadyH.cons rfl (fun K hK => ?_) AllReadyH.nil
     (try simp only [jA, jB, jC])
     go_simp
     (go_at_call 52; refine (HOX.out _).mono ?_; rintro e' W5 ⟨rfl, hB5⟩; have hv5 := hv.on hB5)
     refine hK.out _ _ ?_ (fun hHeld => ?_)
     focus ((try dsimp only); exact HRX.out _ hv5.1; done)
     clear hK K
     (try simp only [Act.put, jA, jB, jC, jD, jE, jF])
     refine wpAnyH_done (by decide +kernel) ?_ _
     go_wp2_with fail
     go_meet
     exact ⟨rfl, hv5⟩
    case rest =>
     obtain ⟨rfl, hv⟩ := hcut
     have HV := Lib.hid hv
     clear hv
     obtain ⟨⟨c0, c1⟩, -⟩ := HRX.out _ HV.out.1
     have HV5 := HV.out
     cases ho : onB a b p
     ·rw [ho] at HW1
      have HE := Lib.hid (show wthK ps p (k + 1) = qs ++ [a] from HW1.out)
      go_wp2
      go_roundg (ps.length - (k + 1))
      case measure => have := HGK.out; omega
      case rel => exact ⟨k + 1, by omega, rfl, by go_num, by rw [HE.out]; exact HV.out⟩
     ·rw [ho] at HW1
      have HE := Lib.hid (show wthK ps p (k + 1) = (qs ++ [a]) ++ [p] by rw [HW1.out]; simp)
      go_wp2_with (at_builtin; refine append_pt _ Tryz.underlying23 HV5 HNQ1.out p _ rfl _ _ rfl rfl _ rfl ?_; rintro v9 w9 HR9)
      go_roundg (ps.length - (k + 1))
      case measure => have := HGK.out; omega
      case rel => exact ⟨k + 1, by omega, rfl, by go_num, by rw [HE.out]; exact HR9⟩
   ·obtain rfl : k = ps.length := by omega
    have HE := Lib.hid (wthK_putC HS.out HM.out)
    rw [HE.out] at HV
    have HVB := Lib.hid (HV.base HQ2.out.1)
    clear HV
    have b0 : ¬ ((ps.length : Int) < (ps.length : Int)) := by omega
    go_wp2
    go_ret
    exact ⟨_, rfl, .inr HVB.out⟩
end Go.Proofs.YtfjfmieadedjoaaGreat

namespace Go.Proofs.YtfjfmieadedjoaaGreat
open Go.RowKit
set_option maxRecDepth 100000 in
set_option maxHeartbeats 1000000 in
theorem Own_own (o : List (Int × Int)) (Ao : Option Addr) (co : Nat) (l : List PV) (Ap : Option Addr) (cp : Nat) (hl : l.length ≤ 1000000) (w : World) (h : PlanAt w o Ao co l Ap cp) :
  Calls Tryz.prog 11 #[.agg #[.slice Ao o.length co, .slice Ap l.length cp]] w fun e w' => Below w.heap.size w w' ∧ ∃ A1 c1 l' Ap1 cp1, e = .returned (.agg #[.slice A1 o.length c1, .slice Ap1 l.length cp1]) ∧ l'.map PV.par = l.map PV.par ∧ PlanAt w' o A1 c1 l' Ap1 cp1 ∧ Row w (.slice A1 o.length c1) o w' ∧ RowI w 45 3 encV (.slice Ap1 l.length cp1) l' w' ∧ OwnRs w l' w' := by
 have HPR := Lib.hid (fun W (hb : Below w.heap.size w W) => h.prs.on hb)
 have HPO := Lib.hid (fun W (hb : Below w.heap.size w W) => h.out.on hb)
 have HNI := Lib.hid h.nil
 have HRO := Lib.hid h.room
 have HQ := ((Hold.refl w).new #[.slice Ao o.length co, .slice Ap l.length cp] 26).new' #[.slice none 0 0, .slice none 0 0] 26 (n := w.heap.size + 1) (by simp)
 clear h
 go_enter Tryz.func11, Tryz.ntmps11
 go_upto_region 1 with (fail)
 generalize (World.alloc (World.alloc w _) _) = W1 at HQ ⊢
 generalize w.heap.size + 1 = g2 at HQ ⊢
 obtain ⟨g1, hg1⟩ : ∃ g, w.heap.size = g := ⟨_, rfl⟩
 have HG1 := Lib.hid hg1
 rw [hg1] at HQ ⊢
 clear hg1
 obtain ⟨c0, c1⟩ := HQ.pt (List.mem_cons_of_mem _ List.mem_cons_self)
 have HQX := Lib.hid HQ
 have hz1 := HQX.out.lt (List.mem_cons_of_mem _ List.mem_cons_self)
 have HMD := Lib.hid (Row.made W1 28 rfl)
 clear HQ
 go_upto_region 2 with (at_builtin; go_must (refine append_pts _ Tryz.underlying23 HMD.out o Ao co (HPO.out _ (Below.trans HQX.out.1 (HMD.out.1.mono HQX.out.1.size))) HNI.out (by have := HRO.out; simpa using this) rfl _ _ rfl rfl rfl ?_; rintro v1 W2 HR1; have hq2 := HQX.out.on HR1.1; have hr1 := HR1.base HQX.out.1; rw [List.nil_append] at hr1; obtain ⟨A1, cA, rfl, -, hn1, hc1⟩ := hr1.full; have HN1 := Lib.hid hn1; have HC1 := Lib.hid hc1; have HR2 := Lib.hid hr1; have HQ2 := Lib.hid hq2; clear HR1 hr1 hn1 hc1 hq2))
 clear c0 c1 hz1
 have HQ3 := HQ2.out.new #[.slice A1 o.length cA, .slice none 0 0] 26
 have HR3 := HR2.out.alloc (Obj.cells #[.slice A1 o.length cA, .slice none 0 0] 26 (0, 0))
 generalize (World.alloc _ _) = W3 at HQ3 HR3 ⊢
 generalize W2.heap.size = g3 at HQ3 ⊢
 clear HQX HMD
 obtain ⟨c0, c1⟩ := HQ3.pt (List.mem_cons_of_mem _ (List.mem_cons_of_mem _ List.mem_cons_self))
 have HQY := Lib.hid HQ3
 have HRY := Lib.hid HR3
 clear HQ3 HR3 HR2 HQ2
 go_wp2_with fail
 clear c0 c1
 go_loopg [4] l.length (fun g i wr => ∃ (k : Nat) (v : Value) (l' : List PV), k ≤ l.length ∧ g = l.length - k ∧ i = .int .i64 k ∧ l'.map PV.par = (l.take k).map PV.par ∧ Row w (.slice A1 o.length cA) o wr ∧ RowI w 45 3 encV v l' wr ∧ OwnRs w l' wr ∧ Hold w [(g3, #[.slice A1 o.length cA, v], 26), (g2, #[.slice none 0 0, .slice none 0 0], 26), (g1, #[.slice Ao o.length co, .slice Ap l.length cp], 26)] wr)
 case atStart => exact ⟨0, .slice none 0 0, [], Nat.zero_le _, rfl, rfl, rfl, HRY.out, RowI.nil HRY.out.1, (fun x hx => (by cases hx)), HQY.out⟩
 case round =>
  obtain ⟨k, v, l', hk, hgk, rfl, hmap, HO, HV, HOR, HB⟩ := hrel
  have HGK := Lib.hid hgk
  have HMAP := Lib.hid hmap
  clear hgk hmap
  obtain ⟨c0, c1'⟩ := HB.pt (List.mem_cons_of_mem _ (List.mem_cons_of_mem _ List.mem_cons_self))
  by_cases hlt : k < l.length
  ·have hw := HPR.out _ HB.1
   obtain ⟨ad, rfl, -, d0, d1, d2⟩ := hw.at hlt
   obtain ⟨hp, hnil, hsz⟩ := hw.2 l[k] (List.getElem_mem hlt)
   have b0 : (0 : Int) ≤ (k : Int) := by omega
   have b1 : (k : Int) < (l.length : Int) := by omega
   have HMT : Hid ((l.take (k + 1)).map PV.par = (l.take k).map PV.par ++ [l[k].par]) := by
    unfold Hid
    rw [List.take_succ_eq_append_getElem hlt, List.map_append]; rfl
   have HLL : Hid (l'.length ≤ 1000000) := by
    have := congrArg List.length HMAP.out
    rw [List.length_map, List.length_map, List.length_take] at this
    unfold Hid; omega
   have HP := Lib.hid hp
   have HNL := Lib.hid hnil
   have HSZ := Lib.hid hsz
   clear hw hp hnil hsz
   generalize l[k].par = x at *
   generalize l[k].A = Ak at *
   generalize l[k].cap = ck at *
   go_upto_region 6 with (fail)
   have hb1 := (Below.refl wr.heap.size wr).alloc (Nat.le_refl _) (.cells #[.int .i64 x.id, .slice Ak x.ring.length ck, .string x.own] 45 (0, 0))
   have HQ := HB.new #[.int .i64 x.id, .slice Ak x.ring.length ck, .string x.own] 45
   have HP1 := HP.out.on hb1
   have HO1 := HO.on hb1
   have HV1 := HV.on hb1
   have HOR1 := HOR.on hb1
   have HNV := Lib.hid (HV.row_ne (Nat.le_refl _))
   clear HB HP HO HV HOR hb1 d0 d1 d2 c0 c1'
   generalize (World.alloc _ _) = W5 at HQ HP1 HO1 HV1 HOR1 ⊢
   generalize wr.heap.size = g5 at HQ HNV ⊢
   have k1 := HQ.cell (.head _) 1
   simp only [List.getElem?_toArray, List.getElem?_cons_zero, List.getElem?_cons_succ] at k1
   have hz5 := HQ.lt (.head _)
   have HMD := Lib.hid (Row.made W5 28 rfl)
   have HQ5 := Lib.hid HQ
   have HP5 := Lib.hid HP1
   have HO5 := Lib.hid HO1
   have HV5 := Lib.hid HV1
   have HOR5 := Lib.hid HOR1
   clear HQ HP1 HO1 HV1 HOR1
   go_upto_region 7 with (at_builtin; go_must (refine append_pts _ Tryz.underlying23 HMD.out x.ring Ak ck (HP5.out.on HMD.out.1) HNL.out (by have := HSZ.out; simpa using this) rfl _ _ rfl rfl rfl ?_; rintro v6 W6 HR6; rw [List.nil_append] at HR6; have hq6 := HQ5.out.on HR6.1; have hr6 := HR6.base HQ5.out.1; obtain ⟨A6, c6, rfl, -, hn6, hc6⟩ := hr6.full; have k6 := hq6.frozen (.head _) 1; have HN6 := Lib.hid hn6; have HC6 := Lib.hid hc6; have HR7 := Lib.hid hr6; have HQ6 := Lib.hid hq6; have HO6 := Lib.hid (HO5.out.on HR6.1); have HV6 := Lib.hid (HV5.out.on HR6.1); have HOR6 := Lib.hid (HOR5.out.on HR6.1); have k7 := hq6.cell (.head _) 1; clear HR6 hr6 hn6 hc6 hq6))
   clear k1 hz5
   have HQ7 : Hold w [(g5, #[.int .i64 x.id, .slice A6 x.ring.length c6, .string x.own], 45), (g3, #[.slice A1 o.length cA, v], 26), (g2, #[.slice none 0 0, .slice none 0 0], 26), (g1, #[.slice Ao o.length co, .slice (some ad) l.length cp], 26)] (W6.setCell ⟨g5, 1, none⟩ (.slice A6 x.ring.length c6)) := HQ6.out.set 1 (.slice A6 x.ring.length c6)
   have hh5 := (HQ6.out.2.1 _ (.head _)).1
   have HV7 : RowI w 45 3 encV v l' (W6.setCell ⟨g5, 1, none⟩ (.slice A6 x.ring.length c6)) := ⟨HQ7.1, row_far_set HV6.out.2 HNV.out 1 _⟩
   have HO7 : Row w (.slice A1 o.length cA) o (W6.setCell ⟨g5, 1, none⟩ (.slice A6 x.ring.length c6)) := ⟨HQ7.1, row_far_set HO6.out.2 (row_block HO6.out.2 hh5 (show (45 : Nat) ≠ 28 by decide)) 1 _⟩
   have HOR7 := HOR6.out.set hh5 (show (45 : Nat) ≠ 28 by decide) 1 (.slice A6 x.ring.length c6)
   have HNR7 := row_far_set HR7.out.2 (row_block HR7.out.2 hh5 (show (45 : Nat) ≠ 28 by decide)) 1 (.slice A6 x.ring.length c6)
   have HOX : Hid (OwnRs w (l' ++ [⟨x, A6, c6⟩]) (W6.setCell ⟨g5, 1, none⟩ (.slice A6 x.ring.length c6))) := fun y hy => by
    rcases List.mem_append.1 hy with hy | hy
    ·exact HOR7 y hy
    ·obtain rfl := List.mem_singleton.1 hy
     exact HNR7
   clear hh5 HOR7 HNR7 HV6 HO6 HOR6 HR7 HQ6 HQ5 HP5 HO5 HV5 HOR5 HMD k6 k7
   generalize (World.setCell W6 _ _) = W7 at HQ7 HV7 HO7 HOX ⊢
   have k0 := HQ7.cell (.head _) 0
   have k1 := HQ7.cell (.head _) 1
   have k2 := HQ7.cell (.head _) 2
   have m1 := HQ7.cell (List.mem_cons_of_mem _ List.mem_cons_self) 1
   simp only [List.getElem?_toArray, List.getElem?_cons_zero, List.getElem?_cons_succ] at k0 k1 k2 m1
   have HNG3 := Lib.hid (HV7.apart (HQ7.2.1 _ (List.mem_cons_of_mem _ List.mem_cons_self)).1 (show (26 : Nat) ≠ 45 by decide))
   have HNG2 := Lib.hid (HV7.apart (HQ7.2.1 _ (List.mem_cons_of_mem _ (List.mem_cons_of_mem _ List.mem_cons_self))).1 (show (26 : Nat) ≠ 45 by decide))
   have HNG1 := Lib.hid (HV7.apart (HQ7.2.1 _ (List.mem_cons_of_mem _ (List.mem_cons_of_mem _ (List.mem_cons_of_mem _ List.mem_cons_self)))).1 (show (26 : Nat) ≠ 45 by decide))
   have HV8 := Lib.hid HV7
   have HQ8 := Lib.hid HQ7
   have HO8 := Lib.hid HO7
   clear HV7 HQ7 HO7
   go_wp2_with (at_builtin; go_must (refine append_itemG kindV Tryz.underlying24 HV8.out ⟨x, A6, c6⟩ 45 #[.int .i64 x.id, .slice A6 x.ring.length c6, .string x.own] rfl (by have := HLL.out; unfold maxLen; omega) (by have := HLL.out; omega) rfl _ _ rfl rfl 1 rfl ?_; rintro v9 w9 HR9 hg9; have hq9 := Hold.grow (HQ8.out.alloc (Obj.cells #[.int .i64 x.id, .slice A6 x.ring.length c6, .string x.own] 45 (0, 0))) HR9.1 hg9 (fun e he => by rcases List.mem_cons.1 he with rfl | he; exact HNV.out; rcases List.mem_cons.1 he with rfl | he; exact HNG3.out; rcases List.mem_cons.1 he with rfl | he; exact HNG2.out; rcases List.mem_cons.1 he with rfl | he; exact HNG1.out; cases he); have HX9 := Lib.hid (OwnRs.grow (OwnRs.alloc HOX.out (Obj.cells #[.int .i64 x.id, .slice A6 x.ring.length c6, .string x.own] 45 (0, 0))) (HV8.out.alloc (Obj.cells #[.int .i64 x.id, .slice A6 x.ring.length c6, .string x.own] 45 (0, 0))).2 (show (28 : Nat) ≠ 45 by decide) hg9); have HO9 := Lib.hid (((HO8.out.alloc (Obj.cells #[.int .i64 x.id, .slice A6 x.ring.length c6, .string x.own] 45 (0, 0))).2).kept hg9 (rows_apart (HO8.out.alloc (Obj.cells #[.int .i64 x.id, .slice A6 x.ring.length c6, .string x.own] 45 (0, 0))).2 (HV8.out.alloc (Obj.cells #[.int .i64 x.id, .slice A6 x.ring.length c6, .string x.own] 45 (0, 0))).2 (show (28 : Nat) ≠ 45 by decide))); obtain ⟨A9, c9, hv9, -, -⟩ := HR9.items; have hl9 : (l' ++ [(⟨x, A6, c6⟩ : PV)]).length = l'.length + 1 := (by simp); rw [hl9] at hv9; have HRR := Lib.hid HR9; have z1 := hq9.frozen (List.mem_cons_of_mem _ List.mem_cons_self) 1; have z2 := hq9.cell (List.mem_cons_of_mem _ List.mem_cons_self) 1; have HQ9 := Lib.hid hq9; subst hv9; clear HR9 hg9 hq9 hl9))
   have HQ10 : Hold w [(g3, #[.slice A1 o.length cA, .slice A9 (l'.length + 1) c9], 26), (g2, #[.slice none 0 0, .slice none 0 0], 26), (g1, #[.slice Ao o.length co, .slice (some ad) l.length cp], 26)] _ := HQ9.out.tail.set 1 (.slice A9 (l'.length + 1) c9)
   have hh3 := (HQ9.out.2.1 _ (List.mem_cons_of_mem _ List.mem_cons_self)).1
   have hv10 : RowI w 45 3 encV (.slice A9 (l'.length + 1) c9) (l' ++ [(⟨x, A6, c6⟩ : PV)]) (w9.setCell ⟨g3, 1, none⟩ (.slice A9 (l'.length + 1) c9)) := ⟨HQ10.1, row_far_set HRR.out.2 (row_block HRR.out.2 hh3 (show (26 : Nat) ≠ 45 by decide)) 1 _⟩
   have ho10 : Row w (.slice A1 o.length cA) o (w9.setCell ⟨g3, 1, none⟩ (.slice A9 (l'.length + 1) c9)) := ⟨HQ10.1, row_far_set HO9.out (row_block HO9.out hh3 (show (26 : Nat) ≠ 28 by decide)) 1 _⟩
   have hx10 := HX9.out.set hh3 (show (26 : Nat) ≠ 28 by decide) 1 (.slice A9 (l'.length + 1) c9)
   go_roundg (l.length - (k + 1))
   case measure => have := HGK.out; omega
   case rel => exact ⟨k + 1, _, l' ++ [(⟨x, A6, c6⟩ : PV)], by omega, rfl, by go_num, by rw [HMT.out, List.map_append, HMAP.out]; rfl, ho10, hv10, hx10, HQ10⟩
  ·obtain rfl : k = l.length := by omega
   have HMF : Hid (l'.map PV.par = l.map PV.par) := by have := HMAP.out; rwa [List.take_length] at this
   obtain ⟨A9, c9, hv9, -, -⟩ := HV.items
   have hlen : l'.length = l.length := by have := congrArg List.length HMF.out; rwa [List.length_map, List.length_map] at this
   rw [hlen] at hv9
   subst hv9
   obtain ⟨m0, m1⟩ := HB.pt (.head _)
   obtain ⟨y0, y1⟩ := HB.pt (List.mem_cons_of_mem _ List.mem_cons_self)
   obtain ⟨z0, z1⟩ := HB.fz (List.mem_cons_of_mem _ List.mem_cons_self)
   have HBX := Lib.hid HB
   have HVX := Lib.hid HV
   have HOX := Lib.hid HO
   have HRX := Lib.hid HOR
   clear HB HV HO HOR hlen
   go_wp2
   have HE := HBX.out.swap2 (.slice A1 o.length cA) (.slice A9 l.length c9)
   have hh2 := (HBX.out.2.1 _ (List.mem_cons_of_mem _ List.mem_cons_self)).1
   have hh2' := (((Hold.swap HBX.out 0 (.slice A1 o.length cA)).2.1 _ (List.mem_cons_of_mem _ List.mem_cons_self))).1
   have hv : RowI w 45 3 encV (.slice A9 l.length c9) l' ((wr.setCell ⟨g2, 0, none⟩ (.slice A1 o.length cA)).setCell ⟨g2, 1, none⟩ (.slice A9 l.length c9)) := ⟨HE.1, row_far_set (row_far_set HVX.out.2 (row_block HVX.out.2 hh2 (show (26 : Nat) ≠ 45 by decide)) 0 _) (row_block HVX.out.2 hh2 (show (26 : Nat) ≠ 45 by decide)) 1 _⟩
   have ho : Row w (.slice A1 o.length cA) o ((wr.setCell ⟨g2, 0, none⟩ (.slice A1 o.length cA)).setCell ⟨g2, 1, none⟩ (.slice A9 l.length c9)) := ⟨HE.1, row_far_set (row_far_set HOX.out.2 (row_block HOX.out.2 hh2 (show (26 : Nat) ≠ 28 by decide)) 0 _) (row_block HOX.out.2 hh2 (show (26 : Nat) ≠ 28 by decide)) 1 _⟩
   have hrs := (HRX.out.set hh2 (show (26 : Nat) ≠ 28 by decide) 0 (.slice A1 o.length cA)).set hh2' (show (26 : Nat) ≠ 28 by decide) 1 (.slice A9 l.length c9)
   obtain ⟨n0, n1⟩ := HE.pt (List.mem_cons_of_mem _ List.mem_cons_self)
   obtain ⟨i1, i2, i3⟩ := hv.full
   obtain ⟨j1, j2, j3⟩ := ho.whole
   refine bodyPost_ret (v := .agg #[.slice A1 o.length cA, .slice A9 l.length c9]) ?_ rfl ⟨HE.1, A1, cA, l', A9, c9, rfl, HMF.out, ⟨⟨i1, fun x hx => ?_⟩, j1, j2, HRO.out, j3, fun x hx => ?_⟩, ho, hv, hrs⟩
   ·simp [results, Tryz.results11, go_sem, n0, n1]
   ·obtain ⟨r1, r2, r3⟩ := (show Row w (.slice x.A x.par.ring.length x.cap) x.par.ring _ from ⟨HE.1, hrs x hx⟩).whole
    refine ⟨r1, r2, ?_⟩
    have hm : x.par ∈ l.map PV.par := by rw [← HMF.out]; exact List.mem_map.2 ⟨x, hx, rfl⟩
    obtain ⟨y, hy, e⟩ := List.mem_map.1 hm
    rw [← e]
    exact ((HPR.out w (Below.refl _ _)).2 y hy).2.2
   ·exact ((show Row w (.slice x.A x.par.ring.length x.cap) x.par.ring _ from ⟨HE.1, hrs x hx⟩).whole).2.2

def OwnP (w w' : World) (o : List (Int × Int)) (qs : List Par) (e : Ending) : Prop := Below w.heap.size w w' ∧ ∃ A1 c1 l' Ap1 cp1, e = .returned (.agg #[.slice A1 o.length c1, .slice Ap1 l'.length cp1]) ∧ l'.map PV.par = qs ∧ Row w (.slice A1 o.length c1) o w' ∧ RowI w 45 3 encV (.slice Ap1 l'.length cp1) l' w' ∧ OwnRs w l' w'
theorem flatV_ring : ∀ (l : List PV) (k : Nat) (x : PV), l[k]? = some x → ∀ (r : List (Int × Int)) (A : Option Addr) (c : Nat), (l.set k ⟨⟨x.par.id, r, x.par.own⟩, A, c⟩).flatMap encV = (l.flatMap encV).set (k * 3 + 1) (.slice A r.length c)
 |[], k, x, h, r, A, c => by simp at h
 |y :: l, 0, x, h, r, A, c => by
  simp only [List.getElem?_cons_zero, Option.some.injEq] at h
  subst h
  simp [encV]
 |y :: l, k + 1, x, h, r, A, c => by
  have ih := flatV_ring l k x (by simpa using h) r A c
  rw [show (k + 1) * 3 + 1 = k * 3 + 1 + 1 + 1 + 1 by omega]
  simp only [List.set_cons_succ, List.flatMap_cons, ih]
  simp [encV]
theorem RowI.ring {w0 W : World} {g n cap : Nat} {l : List PV} (h : RowI w0 45 3 encV (.slice (some ⟨g, 0, none⟩) n cap) l W) {k : Nat} {x : PV} (hx : l[k]? = some x) (r : List (Int × Int)) (A : Option Addr) (c : Nat) :
  RowI w0 45 3 encV (.slice (some ⟨g, 0, none⟩) n cap) (l.set k ⟨⟨x.par.id, r, x.par.own⟩, A, c⟩) (W.setCell ⟨g, k * 3 + 1, none⟩ (.slice A r.length c)) := by
 obtain ⟨hB, hl, h2⟩ := h
 rcases h2 with ⟨e, -⟩ | ⟨g', cap', cur, e, hb, hh, hn, hc, hs, ht⟩
 ·cases e
 ·obtain ⟨e1, rfl, rfl⟩ := Value.slice.inj e
  obtain rfl : g = g' := by simpa using e1
  refine ⟨hB.setCell (p := ⟨g, k * 3 + 1, none⟩) hb _, by rw [flatV_ring l k x hx, List.length_set, List.length_set]; exact hl, .inr ⟨g, cap, cur.setIfInBounds (k * 3 + 1) (.slice A r.length c), by rw [List.length_set], hb, ?_, by rw [List.length_set]; exact hn, hc, ?_, ?_⟩⟩
  ·simp [World.setCell, Array.getElem?_modify, hh]
  ·simp [hs]
  ·rw [flatV_ring l k x hx, ← ht]
   simp [List.take_set]
theorem Hold.other {w W : World} {L : List (Nat × Array Value × TypeId)} {g : Nat} (h : Hold w L W) (hg : w.heap.size ≤ g) (hne : ∀ e ∈ L, e.1 ≠ g) (i : Nat) (x : Value) : Hold w L (W.setCell ⟨g, i, none⟩ x) :=
 ⟨h.1.setCell (p := ⟨g, i, none⟩) hg x, fun e he => ⟨(Below.heap_setCell _ _ _ e.1 (hne e he)).trans (h.2.1 e he).1, (h.2.1 e he).2⟩, h.2.2⟩
theorem OwnRs.base {w w1 W : World} {l : List PV} (h : OwnRs w1 l W) (hb : Below w.heap.size w w1) : OwnRs w l W := fun x hx => ⟨(h x hx).1, (h x hx).2.imp id (fun ⟨g, cap, cur, e, hg, r⟩ => ⟨g, cap, cur, e, Nat.le_trans hb.size hg, r⟩)⟩
structure Og (w : World) (A1 : Option Addr) (o : List (Int × Int)) (c1 : Nat) (Ap : Option Addr) (n : Nat) (l : List PV) (cp g : Nat) (K : List (Nat × Array Value × TypeId)) (W : World) : Prop where
 hold : Hold w ((g, #[.slice A1 o.length c1, .slice Ap n cp], 26) :: K) W
 out : Row w (.slice A1 o.length c1) o W
 row : RowI w 45 3 encV (.slice Ap n cp) l W
 rs : OwnRs w l W
section
variable {w W W' : World} {A1 Ap : Option Addr} {o : List (Int × Int)} {c1 n cp g : Nat} {l : List PV} {K : List (Nat × Array Value × TypeId)}
theorem Og.on (h : Og w A1 o c1 Ap n l cp g K W) (hb : Below W.heap.size W W') : Og w A1 o c1 Ap n l cp g K W' := ⟨h.hold.on hb, h.out.on hb, h.row.on hb, h.rs.on hb⟩
theorem Og.drew (h : Og w A1 o c1 Ap n l cp g K W) : Og w A1 o c1 Ap n l cp g K W.drew := h.on ⟨rfl, rfl, rfl, Nat.le_refl _, fun _ _ => rfl⟩
theorem Og.place (h : Og w A1 o c1 Ap n l cp g K W) {k : Nat} {x : PV} (hx : l[k]? = some x) : ∃ g', Ap = some ⟨g', 0, none⟩ ∧ W.cell? ⟨g', k * 3 + 1, none⟩ = some (.slice x.A x.par.ring.length x.cap) := by
 have hk : k < l.length := by
  rcases Nat.lt_or_ge k l.length with h | h
  ·exact h
  ·rw [List.getElem?_eq_none h] at hx; cases hx
 have hrow := h.row
 obtain ⟨hB, hl, h2⟩ := h.row
 rcases h2 with ⟨e, hz⟩ | ⟨g', cap', cur, e, hb, hh, hn, hc, hs, ht⟩
 ·omega
 ·obtain ⟨rfl, -, -⟩ := Value.slice.inj e
  obtain ⟨ad, e2, -, -, hc⟩ := (hrow.full).1.at kindV.len hk
  obtain rfl := Option.some.inj e2
  have e3 : l[k] = x := by rw [List.getElem?_eq_getElem hk] at hx; exact Option.some.inj hx
  have h4 := hc 1 (.slice x.A x.par.ring.length x.cap) (by decide) (by decide) (by rw [e3]; rfl)
  have e5 : (⟨g', 0, none⟩ : Addr).add (k * 3) = ⟨g', k * 3, none⟩ := by
   unfold Addr.add
   split <;> simp_all
  rw [e5] at h4
  exact ⟨g', rfl, h4⟩
theorem Og.pts (h : Og w A1 o c1 Ap n l cp g K W) {x : PV} (hx : x ∈ l) : Pts W W.heap.size x.A x.par.ring := (show Row w (.slice x.A x.par.ring.length x.cap) x.par.ring W from ⟨h.hold.1, h.rs x hx⟩).whole.1
theorem Og.outer (h : Og w A1 o c1 Ap n l cp g K W) {A5 : Option Addr} {o5 : List (Int × Int)} {c5 : Nat} (hr : Row w (.slice A5 o5.length c5) o5 W) : Og w A5 o5 c5 Ap n l cp g K (W.setCell ⟨g, 0, none⟩ (.slice A5 o5.length c5)) := by
 have hh := (h.hold.2.1 _ (.head _)).1
 have hq := h.hold.set 0 (.slice A5 o5.length c5)
 exact ⟨hq, ⟨hq.1, row_far_set hr.2 (row_block hr.2 hh (show (26 : Nat) ≠ 28 by decide)) 0 _⟩, ⟨hq.1, row_far_set h.row.2 (row_block h.row.2 hh (show (26 : Nat) ≠ 45 by decide)) 0 _⟩, h.rs.set hh (show (26 : Nat) ≠ 28 by decide) 0 _⟩
theorem Og.ring (h : Og w A1 o c1 Ap n l cp g K W) (hK : ∀ e ∈ K, e.2.2 ≠ 45) {k : Nat} {x : PV} (hx : l[k]? = some x) {A5 : Option Addr} {r : List (Int × Int)} {c5 : Nat} (hr : Row w (.slice A5 r.length c5) r W) :
  ∃ g', Ap = some ⟨g', 0, none⟩ ∧ W.frozen? ⟨g', k * 3 + 1, none⟩ = false ∧ (∃ u, W.cell? ⟨g', k * 3 + 1, none⟩ = some u) ∧ Og w A1 o c1 Ap n (l.set k ⟨⟨x.par.id, r, x.par.own⟩, A5, c5⟩) cp g K (W.setCell ⟨g', k * 3 + 1, none⟩ (.slice A5 r.length c5)) := by
 have hk : k < l.length := by
  rcases Nat.lt_or_ge k l.length with h | h
  ·exact h
  ·rw [List.getElem?_eq_none h] at hx; cases hx
 have hrow := h.row
 obtain ⟨hB, hl, h2⟩ := h.row
 rcases h2 with ⟨e, hz⟩ | ⟨g', cap', cur, e, hb, hh, hn, hc, hs, ht⟩
 ·omega
 ·obtain ⟨rfl, -, -⟩ := Value.slice.inj e
  have hne : ∀ e ∈ (g, #[Value.slice A1 o.length c1, Value.slice (some ⟨g', 0, none⟩) n cp], 26) :: K, e.1 ≠ g' := fun e he e' => by
   have h1 := (h.hold.2.1 e he).1
   rw [e', hh] at h1
   have h2 : (45 : TypeId) = e.2.2 := by
    injection h1 with h1
    injection h1
   rcases List.mem_cons.1 he with rfl | he
   ·exact absurd (show (45 : Nat) = 26 from h2) (by decide)
   ·exact hK e he h2.symm
  have hq := h.hold.other hb hne (k * 3 + 1) (.slice A5 r.length c5)
  have hpp : (45 : Nat) ≠ 28 := by decide
  refine ⟨g', rfl, blk_frozen hh _, ⟨cur[k * 3 + 1]'(by rw [hs]; omega), by rw [blk_cell hh, Array.getElem?_eq_getElem]⟩, hq, ⟨hq.1, row_far_set h.out.2 (row_block h.out.2 hh hpp) _ _⟩, hrow.ring hx r A5 c5, fun y hy => ?_⟩
  rcases List.mem_or_eq_of_mem_set hy with hy | rfl
  ·exact row_far_set (h.rs y hy) (row_block (h.rs y hy) hh hpp) _ _
  ·exact row_far_set hr.2 (row_block hr.2 hh hpp) _ _
end
def lsR (r : List (Int × Int)) : List (Int × Int) := rotL r (leastI r r.length)
def lsP (x : Par) : Par := ⟨x.id, lsR x.ring, x.own⟩
theorem turn_step {l lk : List PV} {f : Par → Par} {k : Nat} (hk : k < l.length) (h : lk.map PV.par = (l.take k).map (fun x => f x.par) ++ (l.drop k).map PV.par) :
  ∃ x : PV, lk[k]? = some x ∧ x.par = l[k].par ∧ ∀ y : PV, y.par = f l[k].par → (lk.set k y).map PV.par = (l.take (k + 1)).map (fun x => f x.par) ++ (l.drop (k + 1)).map PV.par := by
 have hlen : ((l.take k).map (fun x => f x.par)).length = k := by rw [List.length_map, List.length_take]; omega
 have hd : l.drop k = l[k] :: l.drop (k + 1) := List.drop_eq_getElem_cons hk
 rw [hd, List.map_cons] at h
 have hg : (lk.map PV.par)[k]? = some l[k].par := by rw [h, List.getElem?_append_right (by omega), hlen, Nat.sub_self]; rfl
 rw [List.getElem?_map] at hg
 cases hx : lk[k]? with
 |none => rw [hx] at hg; cases hg
 |some x =>
  rw [hx] at hg
  refine ⟨x, rfl, Option.some.inj hg, fun y hy => ?_⟩
  rw [List.map_set, h, List.set_append_right _ _ (by omega), hlen, Nat.sub_self, List.set_cons_zero, hy, List.take_succ_eq_append_getElem hk, List.map_append, List.append_assoc]
  rfl
set_option maxRecDepth 100000 in
set_option maxHeartbeats 2000000 in
theorem Least_own (o : List (Int × Int)) (Ao : Option Addr) (co : Nat) (l : List PV) (Ap : Option Addr) (cp : Nat) (hl : l.length ≤ 1000000) (ho : o.length ≤ 1000000000) (hls : ∀ x ∈ l, x.par.ring.length ≤ 1000000000) (w : World) (h : PlanAt w o Ao co l Ap cp) :
  Calls Tryz.prog 60 #[.agg #[.slice Ao o.length co, .slice Ap l.length cp]] w fun e w' => OwnP w w' (lsR o) (l.map fun x => lsP x.par) e := by
 have HOW := Lib.hid (fun K W (hh : Hold w K W) => Own_own o Ao co l Ap cp hl W (h.on hh.1))
 have HLO := Lib.hid ho
 have HLS := Lib.hid hls
 have HLL : Hid (l.length ≤ 1000000) := hl
 have HQ := ((Hold.refl w).new #[.slice Ao o.length co, .slice Ap l.length cp] 26).new' #[.slice none 0 0, .slice none 0 0] 26 (n := w.heap.size + 1) (by simp)
 clear h ho hls
 go_enter Tryz.func60, Tryz.ntmps60
 go_upto_region 1 with (fail)
 generalize (World.alloc (World.alloc w _) _) = W1 at HQ ⊢
 generalize w.heap.size + 1 = g2 at HQ ⊢
 obtain ⟨g1, hg1⟩ : ∃ g, w.heap.size = g := ⟨_, rfl⟩
 have HG1 := Lib.hid hg1
 rw [hg1] at HQ ⊢
 clear hg1
 obtain ⟨c0, c1⟩ := HQ.pt (.tail _ (.head _))
 have HQ1 := Lib.hid HQ
 clear HQ
 go_wp2_with fail
 go_at_call 11
 refine (HOW.out _ _ HQ1.out).mono ?_
 rintro e' W2 ⟨hB, A1, c1', l', Ap1, cp1, rfl, hm, -, hr, hv, hrs⟩
 have hg := (HQ1.out.on hB).new #[.slice A1 o.length c1', .slice Ap1 l.length cp1] 26
 have hba := (Below.refl _ W2).alloc (Nat.le_refl _) (Obj.cells #[.slice A1 o.length c1', .slice Ap1 l.length cp1] 26 (0, 0))
 have hr2 := (hr.base HQ1.out.1).on hba
 have hv2 := (hv.base HQ1.out.1).on hba
 have hrs2 := (OwnRs.base hrs HQ1.out.1).on hba
 have ho2 : Og w A1 o c1' Ap1 l.length l' cp1 W2.heap.size _ _ := ⟨hg, hr2, hv2, hrs2⟩
 clear c0 c1 hB hg hba hr hv hrs hr2 hv2 hrs2 HOW
 go_upto_region 2 with (fail)
 generalize (World.alloc _ _) = W3 at ho2 ⊢
 generalize W2.heap.size = g3 at ho2 ⊢
 have HM := Lib.hid hm
 clear hm
 obtain ⟨c0, c1⟩ := ho2.hold.pt (.head _)
 have HO2 := Lib.hid ho2
 clear ho2
 go_wp2_with fail
 go_at_call 70
 refine (ref_least o A1 c1' HLO.out _ HO2.out.out.whole.1).mono ?_
 rintro e' W4 ⟨v, rfl, hv⟩
 have ho4 := HO2.out.on hv.1
 have hv4 := hv.base HO2.out.hold.1
 obtain ⟨A5, c5, hve, -, -, -⟩ := hv4.full
 subst hve
 have ho5 := ho4.outer hv4
 obtain ⟨z0, z1⟩ := ho4.hold.fz (.head _)
 obtain ⟨c2, c3⟩ := ho4.hold.pt (.head _)
 have HO5 := Lib.hid ho5
 clear c0 c1 ho5 hv hv4 ho4
 go_wp2_with fail
 generalize (World.setCell _ _ _) = W5 at HO5 ⊢
 clear z0 z1 c2 c3
 have hinv : Hid (l'.map PV.par = (l.take 0).map (fun x => lsP x.par) ++ (l.drop 0).map PV.par) := by unfold Hid; rw [HM.out]; simp
 go_loopg [4] l.length (fun g i wr => ∃ (k : Nat) (lk : List PV), k ≤ l.length ∧ g = l.length - k ∧ i = .int .i64 k ∧ Hid (lk.map PV.par = (l.take k).map (fun x => lsP x.par) ++ (l.drop k).map PV.par) ∧ Og w A5 (lsR o) c5 Ap1 l.length lk cp1 g3 [(g2, #[.slice none 0 0, .slice none 0 0], 26), (g1, #[.slice Ao o.length co, .slice Ap l.length cp], 26)] wr)
 case atStart => exact ⟨0, l', Nat.zero_le _, rfl, rfl, hinv, HO5.out⟩
 case round =>
  clear hinv HM
  obtain ⟨k, lk, hk, hgk, rfl, HIV, hO⟩ := hrel
  have HGK := Lib.hid hgk
  clear hgk
  obtain ⟨c0, c1⟩ := hO.hold.pt (.head _)
  by_cases hlt : k < l.length
  ·obtain ⟨x, hx, hpx, hst⟩ := turn_step hlt HIV.out
   have HXL : Hid (lk.length = l.length) := by
    have := congrArg List.length HIV.out
    rw [List.length_map, List.length_append, List.length_map, List.length_map, List.length_take, List.length_drop] at this
    unfold Hid; omega
   have hkk : k < lk.length := by have := HXL.out; omega
   have HST := Lib.hid hst
   have HPX := Lib.hid hpx
   have HX := Lib.hid hx
   have HRL : Hid (x.par.ring.length ≤ 1000000000) := by unfold Hid; rw [hpx]; exact HLS.out _ (List.getElem_mem hlt)
   have HXM : Hid (x ∈ lk) := List.mem_of_getElem? hx
   obtain ⟨g', hA, -⟩ := hO.place hx
   have b0 : (0 : Int) ≤ (k : Int) := by omega
   have b1 : (k : Int) < (l.length : Int) := by omega
   have b9 : (l.length : Int) ≤ 1000000 := by have := HLL.out; omega
   subst hA
   have HKA : Hid (∀ W, Og w A5 (lsR o) c5 (some ⟨g', 0, none⟩) l.length lk cp1 g3 [(g2, #[.slice none 0 0, .slice none 0 0], 26), (g1, #[.slice Ao o.length co, .slice Ap l.length cp], 26)] W → (W.cell? ⟨g3, 0, none⟩ = some (.slice A5 (lsR o).length c5) ∧ W.cell? ⟨g3, 1, none⟩ = some (.slice (some ⟨g', 0, none⟩) l.length cp1)) ∧ W.cell? ⟨g', k * 3 + 1, none⟩ = some (.slice x.A x.par.ring.length x.cap)) := fun W hW => by
    obtain ⟨g'', e, h2⟩ := hW.place HX.out
    obtain ⟨rfl⟩ : g' = g'' := by simpa using e
    exact ⟨hW.hold.pt (.head _), h2⟩
   have HO := Lib.hid hO
   clear hO hx hpx hst hkk
   go_upto_region 6 with (fail)
   clear c0 c1
   have hH := HO.out.drew
   obtain ⟨-, d2⟩ := HKA.out _ hH
   refine wp_region_held_drew (S := fun W => W.cell? ⟨g3, 0, none⟩ = some (.slice A5 (lsR o).length c5) ∧ W.cell? ⟨g3, 1, none⟩ = some (.slice (some ⟨g', 0, none⟩) l.length cp1)) (by kernel_rfl) ?_ (fun hHeld => ?_)
   ·(try dsimp only)
    exact (HKA.out _ hH).1
   refine tZ 0 ?_; refine tZ 1 ?_; refine tZ 2 ?_; refine tZ 3 ?_; refine tZ 4 ?_; refine tZ 5 ?_; refine tZ 6 ?_; refine tZ 7 ?_
   refine wpAnyH_ready (rs := [8]) (by decide +kernel) (by simp) ?_
   refine AllReadyH.cons rfl (fun K hK => ?_) AllReadyH.nil
   (try simp only [jA, jB, jC])
   go_simp
   refine hK.out _ _ ?_ (fun hHeld => ?_)
   focus ((try dsimp only); exact (HKA.out _ hH).1; done)
   clear hK K
   (try simp only [Act.put, jA, jB, jC, jD, jE, jF])
   refine wpAnyH_ready (rs := [9]) (by decide +kernel) (by simp) ?_
   refine AllReadyH.cons rfl (fun K hK => ?_) AllReadyH.nil
   (try simp only [jA, jB, jC])
   go_simp
   (go_at_call 70; refine (ref_least x.par.ring x.A x.cap HRL.out _ (Og.pts hH HXM.out)).mono ?_; rintro e' W7 ⟨v7, rfl, hv7⟩; have h7 := hH.on hv7.1; have hr7 : Row w v7 (lsR x.par.ring) W7 := hv7.base hH.hold.1; obtain ⟨A7, c7, hve, -, -, -⟩ := hr7.full; subst hve)
   refine hK.out _ _ ?_ (fun hHeld => ?_)
   focus ((try dsimp only); exact (HKA.out _ h7).1; done)
   clear hK K
   (try simp only [Act.put, jA, jB, jC, jD, jE, jF])
   refine tZ 10 ?_; refine tZ 11 ?_
   obtain ⟨g'', hA', hf, ⟨u, hu⟩, hog⟩ := h7.ring (by intro e he; simp only [List.mem_cons, List.not_mem_nil, or_false] at he; rcases he with rfl | rfl <;> exact (show (26 : Nat) ≠ 45 by decide)) HX.out hr7
   obtain ⟨rfl⟩ : g' = g'' := by simpa using hA'
   have HS := Lib.hid (HST.out ⟨⟨x.par.id, lsR x.par.ring, x.par.own⟩, A7, c7⟩ (by rw [HPX.out]; rfl))
   refine wpAnyH_ready (rs := [12]) (by decide +kernel) (by simp) ?_
   refine AllReadyH.cons rfl (fun K hK => ?_) AllReadyH.nil
   (try simp only [jA, jB, jC])
   go_simp
   refine hK.out _ _ ?_ (fun hHeld => ?_)
   focus ((try dsimp only); exact hog.hold.pt (.head _); done)
   clear hK K
   (try simp only [Act.put, jA, jB, jC, jD, jE, jF])
   refine wpAnyH_done (by decide +kernel) ?_ _
   go_wp2
   go_roundg (l.length - (k + 1))
   case measure => have := HGK.out; omega
   case rel => exact ⟨k + 1, _, by omega, rfl, by go_num, HS, hog⟩
  ·obtain rfl : k = l.length := by omega
   have HE : Hid (lk.map PV.par = l.map fun x => lsP x.par) := by
    have := HIV.out
    rw [List.take_length, List.drop_length, List.map_nil, List.append_nil] at this
    exact this
   have hlen : l.length = lk.length := by
    have := congrArg List.length HE.out
    rw [List.length_map, List.length_map] at this
    exact this.symm
   have HLEN := Lib.hid hlen
   clear hlen
   obtain ⟨y0, y1⟩ := hO.hold.pt (.tail _ (.head _))
   obtain ⟨z0, z1⟩ := hO.hold.fz (.tail _ (.head _))
   have b0 : ¬ ((l.length : Int) < (l.length : Int)) := by omega
   have HOX := Lib.hid hO
   clear hO
   go_wp2
   have HE2 := HOX.out.hold.swap2 (.slice A5 (lsR o).length c5) (.slice Ap1 l.length cp1)
   have hh2 := (HOX.out.hold.2.1 _ (.tail _ (.head _))).1
   have hh2' := ((HOX.out.hold.swap 0 (.slice A5 (lsR o).length c5)).2.1 _ (.tail _ (.head _))).1
   have p1 : (26 : Nat) ≠ 45 := by decide
   have p2 : (26 : Nat) ≠ 28 := by decide
   have hv := row_far_set (row_far_set HOX.out.row.2 (row_block HOX.out.row.2 hh2 p1) 0 (.slice A5 (lsR o).length c5)) (row_block HOX.out.row.2 hh2 p1) 1 (.slice Ap1 l.length cp1)
   have ho := row_far_set (row_far_set HOX.out.out.2 (row_block HOX.out.out.2 hh2 p2) 0 (.slice A5 (lsR o).length c5)) (row_block HOX.out.out.2 hh2 p2) 1 (.slice Ap1 l.length cp1)
   have hrs := (HOX.out.rs.set hh2 p2 0 (.slice A5 (lsR o).length c5)).set hh2' p2 1 (.slice Ap1 l.length cp1)
   obtain ⟨n0, n1⟩ := HE2.pt (.tail _ (.head _))
   have hlen := HLEN.out
   have e9 : Value.slice Ap1 lk.length cp1 = Value.slice Ap1 l.length cp1 := by rw [hlen]
   have hP : OwnP w ((wr.setCell ⟨g2, 0, none⟩ (.slice A5 (lsR o).length c5)).setCell ⟨g2, 1, none⟩ (.slice Ap1 l.length cp1)) (lsR o) (l.map fun x => lsP x.par) (.returned (.agg #[.slice A5 (lsR o).length c5, .slice Ap1 l.length cp1])) := by
    refine ⟨HE2.1, A5, c5, lk, Ap1, cp1, by rw [e9], HE.out, ⟨HE2.1, ho⟩, ?_, hrs⟩
    rw [e9]
    exact ⟨HE2.1, hv⟩
   refine bodyPost_ret (v := .agg #[.slice A5 (lsR o).length c5, .slice Ap1 l.length cp1]) ?_ rfl hP
   simp [results, Tryz.results60, go_sem, n0, n1]
end Go.Proofs.YtfjfmieadedjoaaGreat

namespace Go.Proofs.YtfjfmieadedjoaaGreat
open Go.RowKit

noncomputable def ptP (p : Int × Int) (x : Par) : Par := ⟨x.id, putC x.ring p, x.own⟩
theorem own_with {w W W' : World} {ps : List (Int × Int)} {A : Option Addr} {cap : Nat} {p : Int × Int} {v : Value} (hb : Below w.heap.size w W) (hr : Row w (.slice A ps.length cap) ps W) (h : (v = .slice A ps.length cap ∧ putC ps p = ps ∧ Below W.heap.size W W') ∨ Row W v (putC ps p) W') : Row w v (putC ps p) W' ∧ Below W.heap.size W W' := by
 rcases h with ⟨rfl, e, h⟩ | h
 ·rw [e]; exact ⟨hr.on h, h⟩
 ·exact ⟨h.base hb, h.1⟩
theorem Og.plan {w W : World} {A1 Ap : Option Addr} {o : List (Int × Int)} {c1 n cp g : Nat} {l : List PV} {K : List (Nat × Array Value × TypeId)} (h : Og w A1 o c1 Ap n l cp g K W) (hn : n = l.length) (ho : o.length ≤ 1000) (hl : ∀ x ∈ l, x.par.ring.length ≤ 1000) : PlanAt W o A1 c1 l Ap cp := by
 subst hn
 exact planAt_of h.out h.row h.rs (by omega) (fun x hx => by have := hl x hx; omega)
set_option maxRecDepth 100000 in
set_option maxHeartbeats 2000000 in
theorem Insert_own (o : List (Int × Int)) (Ao : Option Addr) (co : Nat) (l : List PV) (Ap : Option Addr) (cp : Nat) (p : Int × Int) (hl : l.length ≤ 1000000) (ho : Sound o ∧ gdL o = true ∧ o.length ≤ 900) (hls : ∀ x ∈ l, Sound x.par.ring ∧ gdL x.par.ring = true ∧ x.par.ring.length ≤ 900) (hp : Gd p) (w : World) (h : PlanAt w o Ao co l Ap cp) :
  Calls Tryz.prog 36 #[.agg #[.slice Ao o.length co, .slice Ap l.length cp], .agg #[.int .i64 p.1, .int .i64 p.2]] w fun e w' => OwnP w w' (lsR (putC o p)) (l.map fun x => lsP (ptP p x.par)) e := by
 have HOW := Lib.hid (fun K W (hh : Hold w K W) => Own_own o Ao co l Ap cp hl W (h.on hh.1))
 have HLO := Lib.hid ho
 have HGP := Lib.hid hp
 have HLS := Lib.hid hls
 have HLL : Hid (l.length ≤ 1000000) := hl
 have HQ := (((Hold.refl w).new #[.slice Ao o.length co, .slice Ap l.length cp] 26).new' #[.int .i64 p.1, .int .i64 p.2] 28 (n := w.heap.size + 1) (by simp)).new' #[.slice none 0 0, .slice none 0 0] 26 (n := w.heap.size + 2) (by simp)
 clear h ho hls hp
 go_enter Tryz.func36, Tryz.ntmps36
 go_upto_region 1 with (fail)
 generalize (World.alloc (World.alloc (World.alloc w _) _) _) = W1 at HQ ⊢
 generalize w.heap.size + 2 = g2 at HQ ⊢
 generalize w.heap.size + 1 = gp at HQ ⊢
 obtain ⟨g1, hg1⟩ : ∃ g, w.heap.size = g := ⟨_, rfl⟩
 have HG1 := Lib.hid hg1
 rw [hg1] at HQ ⊢
 clear hg1
 obtain ⟨c0, c1⟩ := HQ.pt (.tail _ (.tail _ (.head _)))
 have HQ1 := Lib.hid HQ
 clear HQ
 go_wp2_with fail
 go_at_call 11
 refine (HOW.out _ _ HQ1.out).mono ?_
 rintro e' W2 ⟨hB, A1, c1', l', Ap1, cp1, rfl, hm, -, hr, hv, hrs⟩
 have hg := (HQ1.out.on hB).new #[.slice A1 o.length c1', .slice Ap1 l.length cp1] 26
 have hba := (Below.refl _ W2).alloc (Nat.le_refl _) (Obj.cells #[.slice A1 o.length c1', .slice Ap1 l.length cp1] 26 (0, 0))
 have hr2 := (hr.base HQ1.out.1).on hba
 have hv2 := (hv.base HQ1.out.1).on hba
 have hrs2 := (OwnRs.base hrs HQ1.out.1).on hba
 have ho2 : Og w A1 o c1' Ap1 l.length l' cp1 W2.heap.size _ _ := ⟨hg, hr2, hv2, hrs2⟩
 clear c0 c1 hB hg hba hr hv hrs hr2 hv2 hrs2 HOW
 go_upto_region 2 with (fail)
 generalize (World.alloc _ _) = W3 at ho2 ⊢
 generalize W2.heap.size = g3 at ho2 ⊢
 have HM := Lib.hid hm
 clear hm
 obtain ⟨c0, c1⟩ := ho2.hold.pt (.head _)
 obtain ⟨q0, q1⟩ := ho2.hold.pt (.tail _ (.tail _ (.head _)))
 have HO2 := Lib.hid ho2
 clear ho2
 go_wp2_with fail
 go_at_call 64
 refine (ref_with o A1 c1' p HLO.out.1 HLO.out.2.1 HGP.out (by have := HLO.out.2.2; omega) _ HO2.out.out.whole.1).mono ?_
 rintro e' W4 ⟨v, rfl, hvw⟩
 obtain ⟨hv4, hv⟩ := own_with HO2.out.hold.1 HO2.out.out hvw
 have ho4 := HO2.out.on hv
 obtain ⟨A5, c5, hve, -, -, -⟩ := hv4.full
 subst hve
 have ho5 := ho4.outer hv4
 obtain ⟨z0, z1⟩ := ho4.hold.fz (.head _)
 obtain ⟨c2, c3⟩ := ho4.hold.pt (.head _)
 have HO5 := Lib.hid ho5
 clear c0 c1 q0 q1 ho5 hv hvw hv4 ho4
 go_wp2_with fail
 generalize (World.setCell _ _ _) = W5 at HO5 ⊢
 clear z0 z1 c2 c3
 have hinv : Hid (l'.map PV.par = (l.take 0).map (fun x => ptP p x.par) ++ (l.drop 0).map PV.par) := by unfold Hid; rw [HM.out]; simp
 go_loopg [6] l.length (fun g i wr => ∃ (k : Nat) (lk : List PV), k ≤ l.length ∧ g = l.length - k ∧ i = .int .i64 k ∧ Hid (lk.map PV.par = (l.take k).map (fun x => ptP p x.par) ++ (l.drop k).map PV.par) ∧ Og w A5 (putC o p) c5 Ap1 l.length lk cp1 g3 [(g2, #[Value.slice none 0 0, Value.slice none 0 0], 26), (gp, #[.int .i64 p.1, .int .i64 p.2], 28), (g1, #[.slice Ao o.length co, .slice Ap l.length cp], 26)] wr)
 case atStart => exact ⟨0, l', Nat.zero_le _, rfl, rfl, hinv, HO5.out⟩
 case round =>
  clear hinv HM
  obtain ⟨k, lk, hk, hgk, rfl, HIV, hO⟩ := hrel
  have HGK := Lib.hid hgk
  clear hgk
  obtain ⟨c0, c1⟩ := hO.hold.pt (.head _)
  by_cases hlt : k < l.length
  ·obtain ⟨x, hx, hpx, hst⟩ := turn_step hlt HIV.out
   have HXL : Hid (lk.length = l.length) := by
    have := congrArg List.length HIV.out
    rw [List.length_map, List.length_append, List.length_map, List.length_map, List.length_take, List.length_drop] at this
    unfold Hid; omega
   have hkk : k < lk.length := by have := HXL.out; omega
   have HST := Lib.hid hst
   have HPX := Lib.hid hpx
   have HX := Lib.hid hx
   have HRL : Hid (Sound x.par.ring ∧ gdL x.par.ring = true ∧ x.par.ring.length ≤ 900) := by unfold Hid; rw [hpx]; exact HLS.out _ (List.getElem_mem hlt)
   have HXM : Hid (x ∈ lk) := List.mem_of_getElem? hx
   obtain ⟨g', hA, -⟩ := hO.place hx
   have b0 : (0 : Int) ≤ (k : Int) := by omega
   have b1 : (k : Int) < (l.length : Int) := by omega
   have b9 : (l.length : Int) ≤ 1000000 := by have := HLL.out; omega
   subst hA
   have HKA : Hid (∀ W, Og w A5 (putC o p) c5 (some ⟨g', 0, none⟩) l.length lk cp1 g3 [(g2, #[Value.slice none 0 0, Value.slice none 0 0], 26), (gp, #[.int .i64 p.1, .int .i64 p.2], 28), (g1, #[.slice Ao o.length co, .slice Ap l.length cp], 26)] W → (W.cell? ⟨g3, 0, none⟩ = some (.slice A5 (putC o p).length c5) ∧ W.cell? ⟨g3, 1, none⟩ = some (.slice (some ⟨g', 0, none⟩) l.length cp1)) ∧ W.cell? ⟨g', k * 3 + 1, none⟩ = some (.slice x.A x.par.ring.length x.cap)) := fun W hW => by
    obtain ⟨g'', e, h2⟩ := hW.place HX.out
    obtain ⟨rfl⟩ : g' = g'' := by simpa using e
    exact ⟨hW.hold.pt (.head _), h2⟩
   have HO := Lib.hid hO
   clear hO hx hpx hst hkk
   go_upto_region 6 with (fail)
   clear c0 c1
   have hH := HO.out.drew
   obtain ⟨-, d2⟩ := HKA.out _ hH
   have HPC : Hid (∀ W, Og w A5 (putC o p) c5 (some ⟨g', 0, none⟩) l.length lk cp1 g3 [(g2, #[Value.slice none 0 0, Value.slice none 0 0], 26), (gp, #[.int .i64 p.1, .int .i64 p.2], 28), (g1, #[.slice Ao o.length co, .slice Ap l.length cp], 26)] W → (W.cell? ⟨g3, 0, none⟩ = some (.slice A5 (putC o p).length c5) ∧ W.cell? ⟨g3, 1, none⟩ = some (.slice (some ⟨g', 0, none⟩) l.length cp1)) ∧ W.cell? ⟨gp, 0, none⟩ = some (.int .i64 p.1) ∧ W.cell? ⟨gp, 1, none⟩ = some (.int .i64 p.2)) := fun W hW => ⟨hW.hold.pt (.head _), hW.hold.pt (.tail _ (.tail _ (.head _)))⟩
   refine wp_region_held_drew (S := fun W => (W.cell? ⟨g3, 0, none⟩ = some (.slice A5 (putC o p).length c5) ∧ W.cell? ⟨g3, 1, none⟩ = some (.slice (some ⟨g', 0, none⟩) l.length cp1)) ∧ W.cell? ⟨gp, 0, none⟩ = some (.int .i64 p.1) ∧ W.cell? ⟨gp, 1, none⟩ = some (.int .i64 p.2)) (by kernel_rfl) ?_ (fun hHeld => ?_)
   ·(try dsimp only)
    exact HPC.out _ hH
   refine tZ 0 ?_; refine tZ 1 ?_; refine tZ 2 ?_; refine tZ 3 ?_; refine tZ 4 ?_; refine tZ 5 ?_; refine tZ 6 ?_; refine tZ 7 ?_; refine tZ 9 ?_
   refine wpAnyH_ready (rs := [8]) (by decide +kernel) (by simp) ?_
   refine AllReadyH.cons rfl (fun K hK => ?_) AllReadyH.nil
   (try simp only [jA, jB, jC])
   go_simp
   refine hK.out _ _ ?_ (fun hHeld => ?_)
   focus ((try dsimp only); exact HPC.out _ hH; done)
   clear hK K
   (try simp only [Act.put, jA, jB, jC, jD, jE, jF])
   refine wpAnyH_ready (rs := [10]) (by decide +kernel) (by simp) ?_
   refine AllReadyH.cons rfl (fun K hK => ?_) AllReadyH.nil
   (try simp only [jA, jB, jC])
   go_simp
   (go_at_call 64; refine (ref_with x.par.ring x.A x.cap p HRL.out.1 HRL.out.2.1 HGP.out (by have := HRL.out.2.2; omega) _ (Og.pts hH HXM.out)).mono ?_; rintro e' W7 ⟨v7, rfl, hvw7⟩; obtain ⟨hr7, hv7⟩ := own_with hH.hold.1 (show Row w (.slice x.A x.par.ring.length x.cap) x.par.ring _ from ⟨hH.hold.1, hH.rs x HXM.out⟩) hvw7; have h7 := hH.on hv7; obtain ⟨A7, c7, hve, -, -, -⟩ := hr7.full; subst hve)
   refine hK.out _ _ ?_ (fun hHeld => ?_)
   focus ((try dsimp only); exact HPC.out _ h7; done)
   clear hK K
   (try simp only [Act.put, jA, jB, jC, jD, jE, jF])
   refine tZ 11 ?_; refine tZ 12 ?_
   obtain ⟨g'', hA', hf, ⟨u, hu⟩, hog⟩ := h7.ring (by intro e he; simp only [List.mem_cons, List.not_mem_nil, or_false] at he; rcases he with rfl | rfl | rfl; exact (show (26 : Nat) ≠ 45 by decide); exact (show (28 : Nat) ≠ 45 by decide); exact (show (26 : Nat) ≠ 45 by decide)) HX.out hr7
   obtain ⟨rfl⟩ : g' = g'' := by simpa using hA'
   have HS := Lib.hid (HST.out ⟨⟨x.par.id, putC x.par.ring p, x.par.own⟩, A7, c7⟩ (by rw [HPX.out]; rfl))
   refine wpAnyH_ready (rs := [13]) (by decide +kernel) (by simp) ?_
   refine AllReadyH.cons rfl (fun K hK => ?_) AllReadyH.nil
   (try simp only [jA, jB, jC])
   go_simp
   refine hK.out _ _ ?_ (fun hHeld => ?_)
   focus ((try dsimp only); exact ⟨hog.hold.pt (.head _), hog.hold.pt (.tail _ (.tail _ (.head _)))⟩; done)
   clear hK K
   (try simp only [Act.put, jA, jB, jC, jD, jE, jF])
   refine wpAnyH_done (by decide +kernel) ?_ _
   go_wp2
   go_roundg (l.length - (k + 1))
   case measure => have := HGK.out; omega
   case rel => exact ⟨k + 1, _, by omega, rfl, by go_num, HS, hog⟩
  ·obtain rfl : k = l.length := by omega
   have HE : Hid (lk.map PV.par = l.map fun x => ptP p x.par) := by
    have := HIV.out
    rw [List.take_length, List.drop_length, List.map_nil, List.append_nil] at this
    exact this
   have hlen : l.length = lk.length := by
    have := congrArg List.length HE.out
    rw [List.length_map, List.length_map] at this
    exact this.symm
   have HLEN := Lib.hid hlen
   clear hlen
   have b0 : ¬ ((l.length : Int) < (l.length : Int)) := by omega
   have hrl : ∀ x ∈ lk, x.par.ring.length ≤ 1000 := fun x hx => by
    have hm : x.par ∈ l.map fun x => ptP p x.par := by rw [← HE.out]; exact List.mem_map_of_mem hx
    obtain ⟨y, hy, e⟩ := List.mem_map.1 hm
    have h1 := putC_len y.par.ring p
    have h2 := (HLS.out y hy).2.2
    rw [← e]
    show (putC y.par.ring p).length ≤ _
    omega
   have HPA := Lib.hid (hO.plan HLEN.out (by have := putC_len o p; have := HLO.out.2.2; omega) hrl)
   have HLK : Hid (lk.length ≤ 1000000) := by have := HLEN.out; have := HLL.out; unfold Hid; omega
   have HPO : Hid ((putC o p).length ≤ 1000000000) := by have := putC_len o p; have := HLO.out.2.2; unfold Hid; omega
   have HPR := Lib.hid (fun (x : PV) (hx : x ∈ lk) => Nat.le_trans (hrl x hx) (show 1000 ≤ 1000000000 by decide))
   have HOX := Lib.hid hO
   clear hO hrl
   have HLT := Lib.hid (fun W (hp : PlanAt W (putC o p) A5 c5 lk Ap1 cp1) => by
    have hx := Least_own (putC o p) A5 c5 lk Ap1 cp1 HLK.out HPO.out HPR.out W hp
    rw [← HLEN.out] at hx
    exact hx)
   go_wp2_with fail
   go_at_call 60
   refine (HLT.out _ HPA.out).mono ?_
   rintro e' W9 ⟨hB, A8, c8, l8, Ap8, cp8, rfl, hm8, hr8, hv8, hrs8⟩
   have h9 := HOX.out.hold.on hB
   have hr9 := hr8.base HOX.out.hold.1
   have hv9 := hv8.base HOX.out.hold.1
   have hrs9 := OwnRs.base hrs8 HOX.out.hold.1
   have HM9 : Hid (l8.map PV.par = l.map fun x => lsP (ptP p x.par)) := by
    unfold Hid
    rw [hm8, show (lk.map fun x => lsP x.par) = (lk.map PV.par).map lsP by rw [List.map_map]; rfl, HE.out, List.map_map]; rfl
   obtain ⟨y0, y1⟩ := h9.pt (.tail _ (.head _))
   obtain ⟨z0, z1⟩ := h9.fz (.tail _ (.head _))
   have HH9 := Lib.hid h9
   have HR9 := Lib.hid hr9
   have HV9 := Lib.hid hv9
   have HS9 := Lib.hid hrs9
   clear c0 c1 hB hm8 hr8 hv8 hrs8 h9 hr9 hv9 hrs9
   go_wp2
   have HE2 := HH9.out.swap2 (.slice A8 (lsR (putC o p)).length c8) (.slice Ap8 l8.length cp8)
   have hh2 := (HH9.out.2.1 _ (.tail _ (.head _))).1
   have hh2' := ((HH9.out.swap 0 (.slice A8 (lsR (putC o p)).length c8)).2.1 _ (.tail _ (.head _))).1
   have p1 : (26 : Nat) ≠ 45 := by decide
   have p2 : (26 : Nat) ≠ 28 := by decide
   have hv := row_far_set (row_far_set HV9.out.2 (row_block HV9.out.2 hh2 p1) 0 (.slice A8 (lsR (putC o p)).length c8)) (row_block HV9.out.2 hh2 p1) 1 (.slice Ap8 l8.length cp8)
   have ho := row_far_set (row_far_set HR9.out.2 (row_block HR9.out.2 hh2 p2) 0 (.slice A8 (lsR (putC o p)).length c8)) (row_block HR9.out.2 hh2 p2) 1 (.slice Ap8 l8.length cp8)
   have hrs := (HS9.out.set hh2 p2 0 (.slice A8 (lsR (putC o p)).length c8)).set hh2' p2 1 (.slice Ap8 l8.length cp8)
   obtain ⟨n0, n1⟩ := HE2.pt (.tail _ (.head _))
   refine bodyPost_ret (v := .agg #[.slice A8 (lsR (putC o p)).length c8, .slice Ap8 l8.length cp8]) ?_ rfl ⟨HE2.1, A8, c8, l8, Ap8, cp8, rfl, HM9.out, ⟨HE2.1, ho⟩, ⟨HE2.1, hv⟩, hrs⟩
   simp [results, Tryz.results36, go_sem, n0, n1]
end Go.Proofs.YtfjfmieadedjoaaGreat

namespace Go.Proofs.YtfjfmieadedjoaaGreat
open Go.RowKit

end Go.Proofs.YtfjfmieadedjoaaGreat
