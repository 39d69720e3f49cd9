/- The program's sidesOf: which parcel lies to the left of each edge. -/
import Derived.Test.YtbcmnhbpomjinaaPgB
import Derived.Test.YtbcmnhbpomjinaaRingP
import Derived.Maps.AppendAt
namespace Go.Proofs.Ytbcmnhbpomjinaa
open Go.RowKit

/-- Each edge with its parcel. -/
def ownL (l : List PV) : List (((Int × Int) × (Int × Int)) × Int) := l.flatMap fun x => (edg x.par.ring).map fun e => (e, x.par.id)
theorem ownL_keys (l : List PV) : (ownL l).map Prod.fst = edgs (rings l) := by
  unfold ownL edgs rings
  rw [List.map_flatMap, List.flatMap_map]
  congr 1
  funext x
  rw [List.map_map]
  exact List.map_id _
theorem ownL_take {l : List PV} {k : Nat} (hk : k < l.length) : ownL (l.take (k + 1)) = ownL (l.take k) ++ (edg l[k].par.ring).map fun e => (e, l[k].par.id) := by
  rw [List.take_succ_eq_append_getElem hk]
  unfold ownL
  rw [List.flatMap_append, List.flatMap_cons, List.flatMap_nil, List.append_nil]
theorem edgs_prefix {l : List PV} {k : Nat} (hk : k < l.length) (j : Nat) : (edgs (rings (l.take k)) ++ (edg l[k].par.ring).take j).Sublist (edgs (rings l)) := by
  have h : edgs (rings l) = edgs (rings (l.take (k + 1))) ++ edgs (rings (l.drop (k + 1))) := by
    conv => lhs; rw [← List.take_append_drop (k + 1) l]
    unfold rings edgs
    rw [List.map_append, List.flatMap_append]
  rw [h, edgs_take hk]
  exact (List.Sublist.append (List.Sublist.refl _) (List.take_sublist _ _)).trans (List.sublist_append_left _ _)
theorem edg_gd {r : List (Int × Int)} (h : ∀ p ∈ r, Gd p) {e : (Int × Int) × (Int × Int)} (he : e ∈ edg r) : Gd e.1 ∧ Gd e.2 := by
  unfold edg at he
  obtain ⟨k, hk, rfl⟩ := List.mem_map.1 he
  have hl : 0 < r.length := by have := List.mem_range.1 hk; omega
  exact ⟨nx_gd (gdL_iff.2 h) hl k, nx_gd (gdL_iff.2 h) hl (k + 1)⟩
theorem Items.but {α : Type} {w w' : World} {A : Option Addr} {enc : α → List Value} {l : List α} {row : Option Nat} (h : Items w w.heap.size A enc l) (hg : w.grownBy w' row) (hne : ∀ ad, A = some ad → row ≠ some ad.block) : Items w' w.heap.size A enc l := fun hl => by
  obtain ⟨ad, e, hb, hc⟩ := h hl
  refine ⟨ad, e, hb, fun j u hu => ?_⟩
  rw [← hc j u hu]
  exact cell_but hg (by rw [block_of_add]; exact hb) (by rw [block_of_add]; exact hne ad e)

set_option maxRecDepth 100000 in
set_option maxHeartbeats 4000000 in
theorem sides_any (l : List PV) (Ap : Option Addr) (cp : Nat) (hn : (edgs (rings l)).length ≤ 1000000) (hl : l.length ≤ 1000000) (hgd : ∀ x ∈ l, ∀ p ∈ x.par.ring, Gd p) (w : World) (hr : Prs w Ap l) :
    Calls Try.prog 38 #[.slice Ap l.length cp] w fun e w' => Below w.heap.size w w' ∧ ((e = .returned (.tuple #[.map none, .bool false]) ∧ ¬ (edgs (rings l)).Nodup) ∨
      ∃ b, e = .returned (.tuple #[.map (some b), .bool true]) ∧ w.heap.size ≤ b ∧ (edgs (rings l)).Nodup ∧ MapIs w' b gv iv OkE (ownL l)) := by
  have HR := Lib.hid (fun K W (h : Hold w K W) => hr.on h.1)
  have HN := Lib.hid hn
  have HG := Lib.hid hgd
  have HQ := (Hold.refl w).alloc (.map #[] 0)
  have HM0 : MapIs (w.alloc (.map #[] 0)) w.heap.size gv iv OkE (ownL (l.take 0)) := MapIs.made w
  have hmm := @run_makeMap Try.prog
  clear hr hn hgd
  go_enter Try.func38, Try.ntmps38
  go_upto_region 2 with (fail)
  generalize (World.alloc _ _) = W1 at HQ HM0 ⊢
  obtain ⟨b, hb⟩ : ∃ b, w.heap.size = b := ⟨_, rfl⟩
  have HBB : Hid (w.heap.size = b) := hb
  rw [hb] at HM0 ⊢
  clear hb hmm
  go_wp2_with fail
  go_loopg [2, 13] l.length (fun g m i wr => ∃ k : Nat, k ≤ l.length ∧ g = l.length - k ∧ m = .map (some b) ∧ i = .int .i64 k ∧ MapIs wr b gv iv OkE (ownL (l.take k)) ∧ Hold w [] wr)
  case atStart => exact ⟨0, Nat.zero_le _, rfl, rfl, rfl, HM0, HQ⟩
  case round =>
    clear HQ HM0
    obtain ⟨k, hk, hgk, rfl, rfl, HM, HB⟩ := hrel
    have HGK := Lib.hid hgk
    clear hgk
    by_cases hlt : k < l.length
    · have hw := HR.out _ _ HB
      obtain ⟨ad, rfl, hadb, d0, d1, d2⟩ := hw.at hlt
      obtain ⟨hp, hnil, hsz⟩ := hw.2 l[k] (List.getElem_mem hlt)
      have hle := edg_le_edgs hlt
      have hN := HN.out
      have HKT := Lib.hid (ownL_take hlt)
      have HKS := Lib.hid (ownL_keys (l.take k))
      have HPF := Lib.hid (fun j => edgs_prefix hlt j)
      have HGE := Lib.hid (fun e he => edg_gd (e := e) (HG.out _ (List.getElem_mem hlt)) he)
      have HLE : Hid (l[k].par.ring.length ≤ 1000000) := by unfold Hid; rw [← edg_len]; omega
      have HEL := Lib.hid (edg_len l[k].par.ring)
      have HP := Lib.hid hp
      have b0 : (0 : Int) ≤ (k : Int) := by omega
      have b1 : (k : Int) < (l.length : Int) := by omega
      clear hw hp hnil hsz hle hN
      generalize edgs (rings (l.take k)) = pre at *
      generalize ownL (l.take k) = om at *
      generalize l[k].par = x at *
      generalize l[k].A = Ak at *
      generalize l[k].cap = ck at *
      go_upto_region 5 with (fail)
      have HQ := HB.new #[.int .i64 x.id, .slice Ak x.ring.length ck, .string x.own] 40
      have HM1 := HM.alloc (.cells #[.int .i64 x.id, .slice Ak x.ring.length ck, .string x.own] 40 (0, 0))
      have HP1 := HP.out.on ((Below.refl _ wr).alloc (Nat.le_refl _) (.cells #[.int .i64 x.id, .slice Ak x.ring.length ck, .string x.own] 40 (0, 0)))
      have HMB : Hid (b < wr.heap.size) := HM.lt
      clear HM HB HP d0 d1 d2 hadb
      generalize (World.alloc _ _) = W2 at HQ HM1 HP1 ⊢
      generalize wr.heap.size = gx at HQ HMB ⊢
      obtain ⟨c0, c1, c2⟩ : W2.cell? ⟨gx, 0, none⟩ = some (.int .i64 x.id) ∧ W2.cell? ⟨gx, 1, none⟩ = some (.slice Ak x.ring.length ck) ∧ W2.cell? ⟨gx, 2, none⟩ = some (.string x.own) := ⟨HQ.cell (.head _) 0, HQ.cell (.head _) 1, HQ.cell (.head _) 2⟩
      have HE := Lib.hid (edges_any x.ring Ak ck HLE.out W2 HP1)
      clear HP1
      go_wp2_with fail
      go_at_call 57
      refine HE.out.mono ?_
      rintro e w1 ⟨v, rfl, HV1⟩
      obtain ⟨A1, c1', hv1, HI, HNO⟩ := HV1.items
      have HM3 := HM1.on HV1.1 (HM1.lt)
      have HQ3 := HQ.on HV1.1
      have hne1 : ∀ ad, A1 = some ad → some b ≠ some ad.block := fun ad' e h => by
        have h1 := HV1.2.lt ad'.block (by rw [hv1, e]; rfl)
        have h2 := HM1.lt
        have := Option.some.inj h
        omega
      have HNE := Lib.hid hne1
      subst hv1
      clear HV1 HE HM1 HQ c0 c1 c2 HNO hne1
      have HI0 := Lib.hid HI
      clear HI
      have HMS := Lib.hid HM3
      have HQS := Lib.hid HQ3
      generalize hes : edg x.ring = es at *
      have HESL : Hid (es.length ≤ 1000000) := by unfold Hid; rw [HEL.out]; exact HLE.out
      clear hes
      go_wp2_with fail
      clear HM3 HQ3
      go_loopg [2, 21] es.length (fun g m i wr2 => ∃ j : Nat, j ≤ es.length ∧ g = es.length - j ∧ m = .map (some b) ∧ i = .int .i64 j ∧ MapIs wr2 b gv iv OkE (om ++ (es.take j).map fun e => (e, x.id)) ∧ w1.grownBy wr2 (some b))
      case atStart => exact ⟨0, Nat.zero_le _, rfl, rfl, rfl, by rw [List.take_zero, List.map_nil, List.append_nil]; exact HMS.out, World.grownBy.refl _ _⟩
      case round =>
        obtain ⟨j, hj, hgj, rfl, rfl, HM, hgr⟩ := hrel
        have HGJ := Lib.hid hgj
        clear hgj
        have HGR := Lib.hid hgr
        have hgxb : some b ≠ some gx := fun e => by have := HMB.out; have := Option.some.inj e; omega
        have HGX := Lib.hid hgxb
        by_cases hjt : j < es.length
        · obtain ⟨ad, rfl, hadb, hc0, hc⟩ := Items.at kindG.len (HI0.out.but hgr HNE.out) hjt
          have d0 := hc0 _ (by decide) rfl
          have d1 := hc 1 _ (by decide) (by decide) rfl
          have d2 := hc 2 _ (by decide) (by decide) rfl
          have d3 := hc 3 _ (by decide) (by decide) rfl
          have b2 : (0 : Int) ≤ (j : Int) := by omega
          have b3 : (j : Int) < (es.length : Int) := by omega
          have b4 : (es.length : Int) ≤ 1000000 := by have := HESL.out; omega
          have hgx : wr.heap[gx]? = some (.cells #[.int .i64 x.id, .slice Ak x.ring.length ck, .string x.own] 40 (0, 0)) := (heap_but hgr (HQS.out.lt (.head _)) hgxb).trans (HQS.out.2.1 _ (.head _)).1
          have HOK : Hid (OkE es[j]) := okE_of (HGE.out _ (List.getElem_mem hjt)).1 (HGE.out _ (List.getElem_mem hjt)).2
          have HTK : Hid (es.take (j + 1) = es.take j ++ [es[j]]) := List.take_succ_eq_append_getElem hjt
          have hkeys : (om ++ (es.take j).map fun e => (e, x.id)).map Prod.fst = pre ++ es.take j := by
            rw [List.map_append, HKS.out, List.map_map]
            congr 1
            exact List.map_id _
          have HPJ : Hid ((pre ++ (es.take j ++ [es[j]])).Sublist (edgs (rings l))) := by have := HPF.out (j + 1); rwa [HTK.out] at this
          have HKY := Lib.hid hkeys
          clear hc0 hc hkeys hgxb
          generalize es[j] = y at *
          go_upto_region 8 with (fail)
          have HQ5 := Lib.hid ((Hold.refl wr).new #[.int .i64 y.1.1, .int .i64 y.1.2, .int .i64 y.2.1, .int .i64 y.2.2] 60)
          have HM5 := HM.alloc (.cells #[.int .i64 y.1.1, .int .i64 y.1.2, .int .i64 y.2.1, .int .i64 y.2.2] 60 (0, 0))
          have hgx5 := blk_alloc hgx (.cells #[.int .i64 y.1.1, .int .i64 y.1.2, .int .i64 y.2.1, .int .i64 y.2.2] 60 (0, 0))
          have hg5 := hgr.trans (World.grownBy_alloc wr (.cells #[.int .i64 y.1.1, .int .i64 y.1.2, .int .i64 y.2.1, .int .i64 y.2.2] 60 (0, 0)) (some b))
          clear d0 d1 d2 d3 HM hgx hgr HGR hadb
          generalize (World.alloc _ _) = W5 at HQ5 HM5 hgx5 hg5 ⊢
          generalize wr.heap.size = ge at HQ5 ⊢
          obtain ⟨c0, c1, c2, c3⟩ := HQ5.out.q4 (.head _)
          obtain ⟨k0, k1, k2⟩ : W5.cell? ⟨gx, 0, none⟩ = some (.int .i64 x.id) ∧ W5.cell? ⟨gx, 1, none⟩ = some (.slice Ak x.ring.length ck) ∧ W5.cell? ⟨gx, 2, none⟩ = some (.string x.own) := ⟨blk_cell hgx5 0, blk_cell hgx5 1, blk_cell hgx5 2⟩
          have HG5 := Lib.hid hg5
          have HM6 := Lib.hid HM5
          clear HM5 hg5 hgx5
          by_cases hm : y ∈ pre ++ es.take j
          · have HDU : Hid (¬ (edgs (rings l)).Nodup) := fun hnd => by
              have h := hnd.sublist HPJ.out
              rw [← List.append_assoc, List.nodup_append] at h
              exact h.2.2 y hm y (by simp) rfl
            have HBW : Hid (Below w.heap.size w W5) := HQS.out.1.grown HG5.out (HQS.out.1.size) (fun k e => by have := HBB.out; have := Option.some.inj e; omega)
            have HMK : Hid (y ∈ (om ++ (es.take j).map fun e => (e, x.id)).map Prod.fst) := by unfold Hid; rw [HKY.out]; exact hm
            clear hm
            go_wp2_with (at_lookup; refine wp_look_yes (z := 0) rfl _ _ 69 rfl 3 keyE Try.underlying69 (zeroI _) b rfl HM6.out HOK.out HMK.out rfl ?_; intro y9 _)
            refine bodyPost_ret (v := .tuple #[.map none, .bool false]) ?_ rfl ⟨HBW.out, .inl ⟨rfl, HDU.out⟩⟩
            simp [results, Try.results38, go_sem]
          · have HMK : Hid (y ∉ (om ++ (es.take j).map fun e => (e, x.id)).map Prod.fst) := by unfold Hid; rw [HKY.out]; exact hm
            clear hm
            go_wp2_with (first
              | (at_lookup; refine wp_look_no (z := 0) rfl _ _ 69 rfl 3 keyE Try.underlying69 (zeroI _) b rfl HM6.out HOK.out HMK.out rfl ?_)
              | (at_mapUpdate; refine wp_store (y := x.id) rfl _ _ _ 69 rfl 3 keyE Try.underlying69 b rfl HM6.out HOK.out HMK.out rfl rfl ?_; intro W9 hm9 hg9 hs9; have HM9 := Lib.hid hm9; have HG9 := Lib.hid (HG5.out.trans hg9); clear hm9 hg9 hs9))
            go_roundg (es.length - (j + 1))
            case measure => have := HGJ.out; omega
            case rel => exact ⟨j + 1, by omega, rfl, rfl, by go_num, by rw [HTK.out, List.map_append, ← List.append_assoc]; exact HM9.out, HG9.out⟩
        · obtain rfl : j = es.length := by omega
          rw [List.take_length] at HM
          have HBW : Hid (Below w.heap.size w wr) := HQS.out.1.grown HGR.out (HQS.out.1.size) (fun k e => by have := HBB.out; have := Option.some.inj e; omega)
          have HM9 := Lib.hid HM
          clear HM hgr hgxb
          go_wp2_with fail
          go_roundg (l.length - (k + 1))
          case measure => have := HGK.out; omega
          case rel => exact ⟨k + 1, by omega, rfl, rfl, by go_num, by rw [HKT.out]; exact HM9.out, ⟨HBW.out, fun _ h => (by cases h), List.Pairwise.nil⟩⟩
    · obtain rfl : k = l.length := by omega
      rw [List.take_length] at HM
      have HND := Lib.hid HM.nodup
      have HM9 := Lib.hid HM
      have HB9 := Lib.hid HB.1
      clear HM HB
      go_wp2
      refine bodyPost_ret (v := .tuple #[.map (some b), .bool true]) ?_ rfl ⟨HB9.out, .inr ⟨b, rfl, by have := HBB.out; omega, by rw [← ownL_keys]; exact HND.out, HM9.out⟩⟩
      simp [results, Try.results38, go_sem]
end Go.Proofs.Ytbcmnhbpomjinaa
