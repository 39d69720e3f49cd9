/- The program's Find: the parcel of a number. -/
import Derived.Test.YtaedlfiafnbceaaGreatLeft
namespace Go.Proofs.YtaedlfiafnbceaaGreat
open Go.RowKit

def FoundAt (w w' : World) (o : List (Int × Int)) (l : List PV) (id : Int) (e : Ending) : Prop :=
 Below w.heap.size w w' ∧ ((chkB o l = false ∧ e = .returned (.tuple #[.agg #[.int .i64 0, .slice none 0 0, .string ⟨#[]⟩], .int .i64 2])) ∨
  (chkB o l = true ∧ (∀ x ∈ l, x.par.id ≠ id) ∧ e = .returned (.tuple #[.agg #[.int .i64 0, .slice none 0 0, .string ⟨#[]⟩], .int .i64 5])) ∨
  (chkB o l = true ∧ ∃ x ∈ l, x.par.id = id ∧ ∃ A c, e = .returned (.tuple #[.agg #[.int .i64 x.par.id, .slice A x.par.ring.length c, .string x.par.own], .int .i64 0]) ∧ Pts w' w'.heap.size A x.par.ring ∧ NilOk A c ∧ x.par.ring.length ≤ c))
set_option maxRecDepth 100000 in
set_option maxHeartbeats 2000000 in
theorem Find_any (o : List (Int × Int)) (Ao : Option Addr) (co : Nat) (l : List PV) (Ap : Option Addr) (cp : Nat) (id : Int) (hl : l.length ≤ 1000000) (ho : o.length ≤ 8796093022208) (hown : ∀ x ∈ l, x.par.own.size ≤ maxLen) (w : World) (h : PlanAt w o Ao co l Ap cp) :
  Calls Tryz.prog 35 #[.agg #[.slice Ao o.length co, .slice Ap l.length cp], .int .i64 id] w fun e' w' => FoundAt w w' o l id e' := by
 have HCK := Lib.hid (fun W (hb : Below w.heap.size w W) => check_any hl ho hown (h.on hb))
 have HPR := Lib.hid (fun W (hb : Below w.heap.size w W) => h.prs.on hb)
 have HL := Lib.hid hl
 have HQ := ((Hold.refl w).new #[.slice Ao o.length co, .slice Ap l.length cp] 26).new' #[.int .i64 0, .slice none 0 0, .string ⟨#[]⟩] 37 (n := w.heap.size + 1) (by simp)
 clear h hl ho hown
 go_enter Tryz.func35, Tryz.ntmps35
 go_upto_region 1 with (fail)
 generalize (World.alloc _ _) = W1 at HQ ⊢
 generalize w.heap.size + 1 = g1 at HQ ⊢
 obtain ⟨g0, hg0⟩ : ∃ g, w.heap.size = g := ⟨_, rfl⟩
 rw [hg0] at HQ ⊢
 have HG0 := Lib.hid hg0
 clear hg0
 obtain ⟨c0, c1⟩ := HQ.pt (.tail _ (.head _))
 have HQX := Lib.hid HQ
 clear HQ
 go_wp2_with fail
 go_at_call 38
 refine (HCK.out _ HQX.out.1).mono ?_
 rintro e' W2 ⟨rfl, hB⟩
 have hq := HQX.out.on hB
 have HQ2 := Lib.hid hq
 clear c0 c1 hB
 obtain ⟨c0, c1⟩ := hq.pt (.tail _ (.head _))
 obtain ⟨d0, d1, d2⟩ : W2.cell? ⟨g1, 0, none⟩ = some (.int .i64 0) ∧ W2.cell? ⟨g1, 1, none⟩ = some (.slice none 0 0) ∧ W2.cell? ⟨g1, 2, none⟩ = some (.string ⟨#[]⟩) := ⟨hq.cell (.head _) 0, hq.cell (.head _) 1, hq.cell (.head _) 2⟩
 obtain ⟨z0, z1, z2⟩ : W2.frozen? ⟨g1, 0, none⟩ = false ∧ W2.frozen? ⟨g1, 1, none⟩ = false ∧ W2.frozen? ⟨g1, 2, none⟩ = false := ⟨hq.frozen (.head _) 0, hq.frozen (.head _) 1, hq.frozen (.head _) 2⟩
 clear hq
 cases hcb : chkB o l
 ·rw [ckR_false hcb]
  have HCB := Lib.hid hcb
  clear hcb
  go_wp2
  have HE := ((HQ2.out.set 0 (.int .i64 0)).set 1 (.slice none 0 0)).set 2 (.string ⟨#[]⟩)
  have n0 := HE.cell (.head _) 0
  have n1 := HE.cell (.head _) 1
  have n2 := HE.cell (.head _) 2
  refine bodyPost_ret (v := .tuple #[.agg #[.int .i64 0, .slice none 0 0, .string ⟨#[]⟩], .int .i64 2]) ?_ rfl ⟨HE.1, .inl ⟨HCB.out, rfl⟩⟩
  simp at n0 n1 n2
  simp [results, Tryz.results35, go_sem, n0, n1, n2]
 ·rw [ckR_true hcb]
  have HCP : Hid (CheckP o l) := chkB_iff.1 hcb
  have HCB := Lib.hid hcb
  clear hcb
  go_wp2_with fail
  clear c0 c1 d0 d1 d2 z0 z1 z2
  go_loopg [18] l.length (fun g i wr => ∃ k : Nat, k ≤ l.length ∧ g = l.length - k ∧ i = .int .i64 k ∧ (∀ x ∈ l.take k, x.par.id ≠ id) ∧ Hold w [(g1, #[.int .i64 0, .slice none 0 0, .string ⟨#[]⟩], 37), (g0, #[.slice Ao o.length co, .slice Ap l.length cp], 26)] wr)
  case atStart => exact ⟨0, Nat.zero_le _, rfl, rfl, fun x hx => by simp at hx, HQ2.out⟩
  case round =>
   obtain ⟨k, hk, hgk, rfl, hno, HB⟩ := hrel
   have HGK := Lib.hid hgk
   have HNO := Lib.hid hno
   clear hgk hno
   by_cases hlt : k < l.length
   ·have hw := HPR.out _ HB.1
    obtain ⟨ad, hA, -, d0, d1, d2⟩ := hw.at hlt
    obtain ⟨hp, hnil, hsz⟩ := hw.2 l[k] (List.getElem_mem hlt)
    have HP := Lib.hid hp
    have HNL := Lib.hid hnil
    have HSZ := Lib.hid hsz
    have HX : Hid (l[k] ∈ l) := List.getElem_mem hlt
    have HGN : Hid (l[k].par.id ≠ id → ∀ x ∈ l.take (k + 1), x.par.id ≠ id) := fun h x hx => by
     rw [List.take_succ_eq_append_getElem hlt, List.mem_append, List.mem_singleton] at hx
     rcases hx with hx | rfl
     ·exact HNO.out x hx
     ·exact h
    have b0 : (0 : Int) ≤ (k : Int) := by omega
    have b1 : (k : Int) < (l.length : Int) := by omega
    have b9 : (l.length : Int) ≤ 1000000 := by have := HL.out; omega
    have HADE := Lib.hid hA
    clear hw hp hnil hsz
    subst hA
    generalize l[k] = x at *
    have HQ3 := HB.new #[.int .i64 x.par.id, .slice x.A x.par.ring.length x.cap, .string x.par.own] 37
    have HP3 := HP.out.on ((Below.refl _ wr).alloc (Nat.le_refl _) (.cells #[.int .i64 x.par.id, .slice x.A x.par.ring.length x.cap, .string x.par.own] 37 (0, 0)))
    clear HP HB
    go_upto_region 7 with (fail)
    generalize (World.alloc _ _) = W4 at HQ3 HP3 ⊢
    generalize wr.heap.size = g4 at HQ3 ⊢
    clear d0 d1 d2
    obtain ⟨d0, d1, d2⟩ : W4.cell? ⟨g4, 0, none⟩ = some (.int .i64 x.par.id) ∧ W4.cell? ⟨g4, 1, none⟩ = some (.slice x.A x.par.ring.length x.cap) ∧ W4.cell? ⟨g4, 2, none⟩ = some (.string x.par.own) := ⟨HQ3.cell (.head _) 0, HQ3.cell (.head _) 1, HQ3.cell (.head _) 2⟩
    have HQ4 := Lib.hid HQ3
    have HP4 := Lib.hid HP3
    clear HQ3 HP3
    by_cases hid : x.par.id = id
    ·have e1 : (x.par.id == id) = true := by simpa using hid
     have HID := Lib.hid hid
     have HCL := Lib.hid (clone_any x.par.ring x.A x.cap HSZ.out HNL.out W4 HP4.out)
     clear hid
     go_wp2_with fail
     go_at_call 50
     refine HCL.out.mono ?_
     rintro e' W5 ⟨v, rfl, hv⟩
     have hq := HQ4.out.on hv.1
     obtain ⟨A5, c5, rfl, hp5, hn5, hc5⟩ := hv.full
     have HN5 := Lib.hid hn5
     have HC5 := Lib.hid hc5
     have HE5 := Lib.hid (fun ad (e : A5 = some ad) => (hv.2.lt ad.block (by rw [e]; rfl)).1)
     have HL4 := Lib.hid (HQ4.out.lt (.head _))
     have HL1 := Lib.hid (HQ4.out.lt (.tail _ (.head _)))
     have hq6 := hq.set 1 (.slice A5 x.par.ring.length c5)
     have HP6 : Hid (Pts (W5.setCell ⟨g4, 1, none⟩ (.slice A5 x.par.ring.length c5)) (W5.setCell ⟨g4, 1, none⟩ (.slice A5 x.par.ring.length c5)).heap.size A5 x.par.ring) := hp5.apart (g := g4) (fun k hk => Below.heap_setCell _ _ _ k hk) (by simp [World.setCell]) (fun ad e => by have := HE5.out ad e; have := HL4.out; omega)
     clear d0 d1 d2 hv hp5 hn5 hc5
     obtain ⟨z0, z1, z2⟩ : W5.frozen? ⟨g4, 0, none⟩ = false ∧ W5.frozen? ⟨g4, 1, none⟩ = false ∧ W5.frozen? ⟨g4, 2, none⟩ = false := ⟨hq.frozen (.head _) 0, hq.frozen (.head _) 1, hq.frozen (.head _) 2⟩
     have i1 := hq.cell (.head _) 1
     simp only [List.getElem?_toArray, List.getElem?_cons_zero, List.getElem?_cons_succ] at i1
     clear hq
     go_upto_region 9 with (fail)
     clear z0 z1 z2 i1
     generalize (W5.setCell ⟨g4, 1, none⟩ (.slice A5 x.par.ring.length c5)) = W6 at hq6 HP6 ⊢
     have j0 := hq6.cell (.head _) 0
     have j1 := hq6.cell (.head _) 1
     have j2 := hq6.cell (.head _) 2
     have k0 := hq6.cell (.tail _ (.head _)) 0
     have k1 := hq6.cell (.tail _ (.head _)) 1
     have k2 := hq6.cell (.tail _ (.head _)) 2
     simp at j0 j1 j2 k0 k1 k2
     obtain ⟨z0, z1, z2⟩ : W6.frozen? ⟨g1, 0, none⟩ = false ∧ W6.frozen? ⟨g1, 1, none⟩ = false ∧ W6.frozen? ⟨g1, 2, none⟩ = false := ⟨hq6.frozen (.tail _ (.head _)) 0, hq6.frozen (.tail _ (.head _)) 1, hq6.frozen (.tail _ (.head _)) 2⟩
     have hs := Hold.put (L1 := [_]) (Hold.put (L1 := [_]) (Hold.put (L1 := [_]) hq6 0 (.int .i64 x.par.id)) 1 (.slice A5 x.par.ring.length c5)) 2 (.string x.par.own)
     have hp9 : Pts (((W6.setCell ⟨g1, 0, none⟩ (.int .i64 x.par.id)).setCell ⟨g1, 1, none⟩ (.slice A5 x.par.ring.length c5)).setCell ⟨g1, 2, none⟩ (.string x.par.own)) (((W6.setCell ⟨g1, 0, none⟩ (.int .i64 x.par.id)).setCell ⟨g1, 1, none⟩ (.slice A5 x.par.ring.length c5)).setCell ⟨g1, 2, none⟩ (.string x.par.own)).heap.size A5 x.par.ring := HP6.out.apart (g := g1) (fun k hk => (Below.heap_setCell _ _ _ k hk).trans ((Below.heap_setCell _ _ _ k hk).trans (Below.heap_setCell _ _ _ k hk))) (by simp [World.setCell]) (fun ad e => by have := HE5.out ad e; have := HL1.out; omega)
     have n0 := hs.cell (.tail _ (.head _)) 0
     have n1 := hs.cell (.tail _ (.head _)) 1
     have n2 := hs.cell (.tail _ (.head _)) 2
     simp at n0 n1 n2
     have HS := Lib.hid hs
     have HP9 := Lib.hid hp9
     have HNN := Lib.hid (And.intro n0 (And.intro n1 n2))
     clear hs hp9 n0 n1 n2 hq6
     go_wp2
     obtain ⟨n0, n1, n2⟩ := HNN.out
     refine bodyPost_ret (v := .tuple #[.agg #[.int .i64 x.par.id, .slice A5 x.par.ring.length c5, .string x.par.own], .int .i64 0]) ?_ rfl ⟨HS.out.1, .inr (.inr ⟨HCB.out, x, HX.out, HID.out, A5, c5, rfl, HP9.out, HN5.out, HC5.out⟩)⟩
     simp [results, Tryz.results35, go_sem, n0, n1, n2]
    ·have e1 : (x.par.id == id) = false := by simpa using hid
     have HNX := Lib.hid (HGN.out hid)
     clear hid HGN
     go_wp2_with fail
     go_roundg (l.length - (k + 1))
     case measure => have := HGK.out; omega
     case rel => exact ⟨k + 1, by omega, rfl, by go_num, HNX.out, HQ4.out.tail⟩
   ·obtain rfl : k = l.length := by omega
    rw [List.take_length] at HNO
    have HB9 := Lib.hid HB
    obtain ⟨z0, z1, z2⟩ : wr.frozen? ⟨g1, 0, none⟩ = false ∧ wr.frozen? ⟨g1, 1, none⟩ = false ∧ wr.frozen? ⟨g1, 2, none⟩ = false := ⟨HB.frozen (.head _) 0, HB.frozen (.head _) 1, HB.frozen (.head _) 2⟩
    have c0 := HB.cell (.head _) 0
    have c1 := HB.cell (.head _) 1
    have c2 := HB.cell (.head _) 2
    simp only [List.getElem?_toArray, List.getElem?_cons_zero, List.getElem?_cons_succ] at c0 c1 c2
    clear HB
    go_wp2
    have HE := ((HB9.out.set 0 (.int .i64 0)).set 1 (.slice none 0 0)).set 2 (.string ⟨#[]⟩)
    have n0 := HE.cell (.head _) 0
    have n1 := HE.cell (.head _) 1
    have n2 := HE.cell (.head _) 2
    simp at n0 n1 n2
    refine bodyPost_ret (v := .tuple #[.agg #[.int .i64 0, .slice none 0 0, .string ⟨#[]⟩], .int .i64 5]) ?_ rfl ⟨HE.1, .inr (.inl ⟨HCB.out, HNO.out, rfl⟩)⟩
    simp [results, Tryz.results35, go_sem, n0, n1, n2]
end Go.Proofs.YtaedlfiafnbceaaGreat
