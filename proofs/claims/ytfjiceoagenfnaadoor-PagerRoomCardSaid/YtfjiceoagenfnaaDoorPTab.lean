/- Layer pager, the table of states. -/
import Derived.Test.YtfjiceoagenfnaaDoorPMem
set_option maxRecDepth 20000
namespace Go.Proofs.YtfjiceoagenfnaaDoor
open Go.RowKit Go.Lib Go.ChangeMaps Go.MapKept

/-- Is that a page? -/
def isPgB (i n : Int) : Bool := decide (2 ≤ i ∧ i < n)
theorem isPage_any (W : World) (i n : Int) : Calls Tryd.prog 61 #[.int .i64 i, .int .i64 n] W fun e w' => e = .returned (.bool (isPgB i n)) ∧ w' = W := by
  by_cases h1 : i ≥ 2
  · by_cases h2 : i < n
    · have e : isPgB i n = true := decide_eq_true ⟨h1, h2⟩
      rw [e]
      go_enter Tryd.func61, Tryd.ntmps61
      go_wp2_with fail
      go_ret
      exact ⟨rfl, rfl⟩
    · have e : isPgB i n = false := decide_eq_false (fun h => h2 h.2)
      rw [e]
      go_enter Tryd.func61, Tryd.ntmps61
      go_wp2_with fail
      go_ret
      exact ⟨rfl, rfl⟩
  · have e : isPgB i n = false := decide_eq_false (fun h => h1 h.1)
    rw [e]
    go_enter Tryd.func61, Tryd.ntmps61
    go_wp2_with fail
    go_ret
    exact ⟨rfl, rfl⟩
theorem isFree_any (W : World) (c : Nat) : Calls Tryd.prog 49 #[.int .u8 (c : Nat)] W fun e w' => e = .returned (.bool (fre c)) ∧ w' = W := by
  by_cases h0 : c = 0
  · subst h0
    go_enter Tryd.func49, Tryd.ntmps49
    go_wp2_with fail
    go_ret
    exact ⟨rfl, rfl⟩
  · by_cases h1 : c = 1
    · subst h1
      go_enter Tryd.func49, Tryd.ntmps49
      go_wp2_with fail
      go_ret
      exact ⟨rfl, rfl⟩
    · have e : fre c = false := decide_eq_false (by omega)
      have h0' : ((c : Int) == 0) = false := by rw [beq_eq_false_iff_ne]; omega
      have h1' : ((c : Int) == 1) = false := by rw [beq_eq_false_iff_ne]; omega
      rw [e]
      go_enter Tryd.func49, Tryd.ntmps49
      go_wp2_with fail
      go_ret
      exact ⟨rfl, rfl⟩
theorem five {c : Nat} (h : c ≤ 4) : c = 0 ∨ c = 1 ∨ c = 2 ∨ c = 3 ∨ c = 4 := by omega
theorem used_any (W : World) (c : Nat) (hc : c ≤ 4) : Calls Tryd.prog 40 #[.int .u8 (c : Nat)] W fun e w' => e = .returned (.int .u8 (useC c : Nat)) ∧ w' = W := by
  rcases five hc with rfl | rfl | rfl | rfl | rfl <;>
    (go_enter Tryd.func40, Tryd.ntmps40
     go_wp2_with fail
     go_ret
     exact ⟨rfl, rfl⟩)
theorem released_any (W : World) (c : Nat) (hc : c ≤ 4) : Calls Tryd.prog 34 #[.int .u8 (c : Nat)] W fun e w' => e = .returned (.int .u8 (relC c : Nat)) ∧ w' = W := by
  rcases five hc with rfl | rfl | rfl | rfl | rfl <;>
    (go_enter Tryd.func34, Tryd.ntmps34
     go_wp2_with fail
     go_ret
     exact ⟨rfl, rfl⟩)
theorem flipped_any (W : World) (c : Nat) (hc : c ≤ 4) : Calls Tryd.prog 58 #[.int .u8 (c : Nat)] W fun e w' => e = .returned (.int .u8 (flC c : Nat)) ∧ w' = W := by
  rcases five hc with rfl | rfl | rfl | rfl | rfl <;>
    (go_enter Tryd.func58, Tryd.ntmps58
     go_wp2_with fail
     go_ret
     exact ⟨rfl, rfl⟩)
theorem useC_le (c : Nat) : useC c ≤ 4 := by unfold useC; split <;> omega
theorem relC_le {c : Nat} (h : c ≤ 4) : relC c ≤ 4 := by unfold relC; split <;> (try split) <;> omega
theorem flC_le (c : Nat) : flC c ≤ 4 := by unfold flC; split <;> omega
theorem hasT_any {W : World} {n : Nat} {ps : PS} {gd g gs low : Nat} (h : PAt W n ps gd g gs low) (i : Int) :
    Calls Tryd.prog 46 #[.pointer (some ⟨g, 1, none⟩), .int .i64 i] W fun e w' => e = .returned (.bool (isPgB i n)) ∧ w' = W := by
  have d1 := h.d1
  have HP := Lib.hid (isPage_any W i n)
  clear h
  go_enter Tryd.func46, Tryd.ntmps46
  go_wp2_with (go_at_call 61; refine HP.out.mono ?_; rintro e' w' ⟨rfl, rfl⟩)
  go_ret
  exact ⟨rfl, rfl⟩
/-- A table whose numbers need not fit. -/
structure PRaw (W : World) (n : Nat) (ts : List Nat) (room : Int) (low sq rt : Nat) (gd g gs : Nat) : Prop where
  blk : W.heap[g]? = some (.cells #[.pointer (some ⟨gd, 0, none⟩), .slice (some ⟨gs, 0, none⟩) n n, .int .i64 room, .int .i64 (low : Nat), .int .i64 (sq : Nat), .int .i64 (rt : Nat), .bool false] 72 (0, 0))
  st : W.heap[gs]? = some (.cells (stV ts).toArray 79 (0, 0))
theorem PAt.raw {W : World} {n : Nat} {ps : PS} {gd g gs low : Nat} (h : PAt W n ps gd g gs low) : PRaw W n ps.ts (roomOf ps.ts) low ps.seq ps.root gd g gs := ⟨h.blk, h.st⟩
section
variable {W : World} {room : Int} {n low sq rt gd g gs : Nat} {ts : List Nat} (h : PRaw W n ts room low sq rt gd g gs)
include h
theorem PRaw.ne : g ≠ gs := fun e => by
  have h1 := h.blk
  rw [e, h.st] at h1
  injection h1 with h1
  injection h1 with _ h1
  exact absurd h1 (by decide)
theorem PRaw.d1 : W.cell? ⟨g, 1, none⟩ = some (.slice (some ⟨gs, 0, none⟩) n n) := blk_cell h.blk 1
theorem PRaw.d2 : W.cell? ⟨g, 2, none⟩ = some (.int .i64 room) := blk_cell h.blk 2
theorem PRaw.d3 : W.cell? ⟨g, 3, none⟩ = some (.int .i64 (low : Nat)) := blk_cell h.blk 3
theorem PRaw.fz (i : Nat) : W.frozen? ⟨g, i, none⟩ = false := blk_frozen h.blk i
theorem PRaw.sz (i : Nat) : W.frozen? ⟨gs, i, none⟩ = false := blk_frozen h.st i
theorem PRaw.sc {i : Nat} (hi : i < ts.length) : W.cell? ⟨gs, i, none⟩ = some (.int .u8 (ts.getD i 0 : Nat)) := by
  rw [blk_cell h.st i, stV_get hi]
theorem PRaw.setR (r : Int) : PRaw (W.setCell ⟨g, 2, none⟩ (.int .i64 r)) n ts r low sq rt gd g gs := ⟨by
  have := blk_set h.blk 2 (.int .i64 r)
  simpa using this, (RowKit.Below.heap_setCell _ _ _ _ (Ne.symm h.ne)).trans h.st⟩
theorem PRaw.setL (l : Nat) : PRaw (W.setCell ⟨g, 3, none⟩ (.int .i64 (l : Nat))) n ts room l sq rt gd g gs := ⟨by
  have := blk_set h.blk 3 (.int .i64 (l : Nat))
  simpa using this, (RowKit.Below.heap_setCell _ _ _ _ (Ne.symm h.ne)).trans h.st⟩
theorem PRaw.put (i c : Nat) : PRaw (W.setCell ⟨gs, i, none⟩ (.int .u8 (c : Nat))) n (ts.set i c) room low sq rt gd g gs := ⟨(RowKit.Below.heap_setCell _ _ _ _ h.ne).trans h.blk, by
  have := blk_set h.st i (.int .u8 (c : Nat))
  rwa [stV_set] at this⟩
end
def TB (g gs : Nat) : Nat → Prop := fun k => k = g ∨ k = gs
theorem tb_g {W : World} {g gs i : Nat} {v : Value} : Fr (TB g gs) W (W.setCell ⟨g, i, none⟩ v) := Fr.set (.inl rfl)
theorem tb_s {W : World} {g gs i : Nat} {v : Value} : Fr (TB g gs) W (W.setCell ⟨gs, i, none⟩ v) := Fr.set (.inr rfl)
theorem tb_t {W W1 W2 : World} {g gs : Nat} (h1 : Fr (TB g gs) W W1) (h2 : Fr (TB g gs) W1 W2) : Fr (TB g gs) W W2 := h1.trans h2 (fun _ _ e => e)
theorem PRaw.pat {W W' : World} {n : Nat} {ps : PS} {gd g gs low : Nat} (h0 : PAt W n ps gd g gs low) {room : Int} {i c low' : Nat} (h : PRaw W' n (ps.ts.set i c) room low' ps.seq ps.root gd g gs) (h2 : 2 ≤ i) (hi : i < n) (hc : c ≤ 4) (hr : room = (roomOf (ps.ts.set i c) : Nat)) (hl : low' = if fre c = true then min low i else low) :
    PAt W' n { ps with ts := ps.ts.set i c } gd g gs low' where
  len := by show (ps.ts.set i c).length = n; rw [List.length_set]; exact h0.len
  n4 := h0.n4
  few := fun x hx => (List.mem_or_eq_of_mem_set hx).elim (fun e => h0.few x e) (fun e => by rw [e]; exact hc)
  seq := h0.seq
  root := h0.root
  lows := by
    obtain ⟨a, b, d⟩ := h0.lows
    refine ⟨by rw [hl]; split <;> omega, by rw [hl]; split <;> omega, fun j hj hj2 => ?_⟩
    show fre ((ps.ts.set i c).getD j 0) = false
    rw [List.getD_eq_getElem?_getD, List.getElem?_set]
    by_cases e : i = j
    · rw [if_pos e, if_pos (by rw [h0.len]; exact hi)]
      show fre c = false
      by_cases hf : fre c = true
      · rw [if_pos hf] at hl; omega
      · simpa using hf
    · rw [if_neg e, ← List.getD_eq_getElem?_getD]
      refine d j hj ?_
      rw [hl] at hj2
      split at hj2 <;> omega
  blk := by show _ = some (Obj.cells #[_, _, .int .i64 (roomOf (ps.ts.set i c) : Nat), _, _, _, _] _ _); rw [← hr]; exact h.blk
  st := h.st
set_option maxHeartbeats 2000000 in
theorem set_any {W : World} {n : Nat} {ps : PS} {gd g gs low : Nat} (h : PAt W n ps gd g gs low) {i : Nat} (h2 : 2 ≤ i) (hi : i < n) {c : Nat} (hc : c ≤ 4) :
    Calls Tryd.prog 32 #[.pointer (some ⟨g, 1, none⟩), .int .i64 (i : Nat), .int .u8 (c : Nat)] W fun e w' => e = .returned (.tuple #[]) ∧ Fr (TB g gs) W w' ∧ ∃ low', PAt w' n { ps with ts := ps.ts.set i c } gd g gs low' := by
  have hR := roomOf_set (ts := ps.ts) h2 (by rw [h.len]; exact hi) c
  have hle := roomOf_le ps.ts
  have hp := roomOf_pos (ts := ps.ts) h2 (by rw [h.len]; exact hi)
  have n4 := h.n4
  have hlen := h.len
  have lows := h.lows
  have r0 := h.raw
  have hm : roomOf ps.ts ≤ 65536 := by omega
  have i0 : (0 : Int) ≤ (i : Int) := by omega
  have i1 : (i : Int) < (n : Int) := by omega
  have HH := Lib.hid h
  have il : i < ps.ts.length := by omega
  obtain ⟨old, ho⟩ : ∃ o, ps.ts.getD i 0 = o := ⟨_, rfl⟩
  have a1 := r0.d1
  have a2 := r0.d2
  have a3 := r0.d3
  have asc := r0.sc il
  have af := r0.fz
  have ag := r0.sz
  have gn := r0.ne
  rw [ho] at hR hp asc
  generalize roomOf ps.ts = room at *
  have Hhi := Lib.hid (And.intro h2 hi)
  have Hlow := Lib.hid lows
  have Hc := Lib.hid hc
  clear h lows h2 hi hlen hc n4
  cases hf : fre old
  · cases hg : fre c
    · rw [hf, hg] at hR
      have HR1 := Lib.hid (r0.put i c)
      have Hroom := Lib.hid hR
      clear r0 hR hp hle hm
      go_enter Tryd.func32, Tryd.ntmps32
      go_wp2_with (go_at_call 49; refine (isFree_any _ _).mono ?_; rintro e' w' ⟨rfl, rfl⟩)
      refine bodyPost_end (results_none rfl _ _ _) rfl ?_
      exact ⟨rfl, tb_s, low, PRaw.pat HH.out HR1.out Hhi.out.1 Hhi.out.2 Hc.out (by have := Hroom.out; simp at this; omega) (by rw [if_neg (by rw [hg]; decide)])⟩
    · rw [hf, hg] at hR
      have r1 := r0.put i c
      have r2 := r1.setR ((room : Int) + 1)
      have b2 := r1.d2
      have bf := r1.fz
      have c3 := r2.d3
      have cf := r2.fz
      have w1 : IntKind.i64.wrap ((room : Int) + 1) = (room : Int) + 1 := wrap_in (by omega) (by omega)
      have Hroom := Lib.hid hR
      clear hR hp hle hm
      by_cases hlo : i < low
      · have hli : (i : Int) < (low : Int) := by omega
        have HL := Lib.hid hlo
        have HR3 := Lib.hid (r2.setL i)
        clear r0 r1 r2 hlo
        go_enter Tryd.func32, Tryd.ntmps32
        go_wp2_with (go_at_call 49; refine (isFree_any _ _).mono ?_; rintro e' w' ⟨rfl, rfl⟩)
        refine bodyPost_end (results_none rfl _ _ _) rfl ?_
        exact ⟨rfl, tb_t tb_s (tb_t tb_g tb_g), i, PRaw.pat HH.out HR3.out Hhi.out.1 Hhi.out.2 Hc.out (by have := Hroom.out; simp at this; omega) (by rw [if_pos hg]; have := HL.out; omega)⟩
      · have hli : ¬ (i : Int) < (low : Int) := by omega
        have HL := Lib.hid hlo
        have HR3 := Lib.hid (r2.setL low)
        clear r0 r1 r2 hlo
        go_enter Tryd.func32, Tryd.ntmps32
        go_wp2_with (go_at_call 49; refine (isFree_any _ _).mono ?_; rintro e' w' ⟨rfl, rfl⟩)
        refine bodyPost_end (results_none rfl _ _ _) rfl ?_
        exact ⟨rfl, tb_t tb_s (tb_t tb_g tb_g), low, PRaw.pat HH.out HR3.out Hhi.out.1 Hhi.out.2 Hc.out (by have := Hroom.out; simp at this; omega) (by rw [if_pos hg]; have := HL.out; omega)⟩
  · have hp' := hp hf
    cases hg : fre c
    · rw [hf, hg] at hR
      have r1 := r0.setR ((room : Int) - 1)
      have HR2 := Lib.hid (r1.put i c)
      have b1 := r1.d1
      have bs := r1.sc il
      have bg := r1.sz
      rw [ho] at bs
      have w1 : IntKind.i64.wrap ((room : Int) - 1) = (room : Int) - 1 := wrap_in (by omega) (by omega)
      have Hroom := Lib.hid hR
      clear r0 r1 hR hp hp' hle hm
      go_enter Tryd.func32, Tryd.ntmps32
      go_wp2_with (go_at_call 49; refine (isFree_any _ _).mono ?_; rintro e' w' ⟨rfl, rfl⟩)
      refine bodyPost_end (results_none rfl _ _ _) rfl ?_
      exact ⟨rfl, tb_t tb_g tb_s, low, PRaw.pat HH.out HR2.out Hhi.out.1 Hhi.out.2 Hc.out (by have := Hroom.out; simp at this; omega) (by rw [if_neg (by rw [hg]; decide)])⟩
    · rw [hf, hg] at hR
      have r1 := r0.setR ((room : Int) - 1)
      have r2 := r1.put i c
      have r3 := r2.setR ((room : Int) - 1 + 1)
      have b1 := r1.d1
      have bs := r1.sc il
      have bg := r1.sz
      rw [ho] at bs
      have c2 := r2.d2
      have cf := r2.fz
      have d3 := r3.d3
      have df := r3.fz
      have w1 : IntKind.i64.wrap ((room : Int) - 1) = (room : Int) - 1 := wrap_in (by omega) (by omega)
      have w4 : IntKind.i64.wrap ((room : Int) - 1 + 1) = (room : Int) - 1 + 1 := wrap_in (by omega) (by omega)
      have Hroom := Lib.hid hR
      clear hR hp hp' hle hm
      by_cases hlo : i < low
      · have hli : (i : Int) < (low : Int) := by omega
        have HL := Lib.hid hlo
        have HR3 := Lib.hid (r3.setL i)
        clear r0 r1 r2 r3 hlo
        obtain ⟨rm, hrm⟩ : ∃ rm, (room : Int) - 1 = rm := ⟨_, rfl⟩
        rw [hrm] at w1 w4 b1 bs bg c2 cf d3 df HR3
        obtain ⟨rn, hrn⟩ : ∃ rn, rm + 1 = rn := ⟨_, rfl⟩
        rw [hrn] at w4 d3 df HR3
        have HE := Lib.hid (show rn = (room : Int) by omega)
        go_enter Tryd.func32, Tryd.ntmps32
        go_wp2_with (go_at_call 49; refine (isFree_any _ _).mono ?_; rintro e' w' ⟨rfl, rfl⟩)
        refine bodyPost_end (results_none rfl _ _ _) rfl ?_
        exact ⟨rfl, tb_t tb_g (tb_t tb_s (tb_t tb_g tb_g)), i, PRaw.pat HH.out HR3.out Hhi.out.1 Hhi.out.2 Hc.out (by have := Hroom.out; have := HE.out; simp at *; omega) (by rw [if_pos hg]; have := HL.out; omega)⟩
      · have hli : ¬ (i : Int) < (low : Int) := by omega
        have HL := Lib.hid hlo
        have HR3 := Lib.hid (r3.setL low)
        clear r0 r1 r2 r3 hlo
        obtain ⟨rm, hrm⟩ : ∃ rm, (room : Int) - 1 = rm := ⟨_, rfl⟩
        rw [hrm] at w1 w4 b1 bs bg c2 cf d3 df HR3
        obtain ⟨rn, hrn⟩ : ∃ rn, rm + 1 = rn := ⟨_, rfl⟩
        rw [hrn] at w4 d3 df HR3
        have HE := Lib.hid (show rn = (room : Int) by omega)
        go_enter Tryd.func32, Tryd.ntmps32
        go_wp2_with (go_at_call 49; refine (isFree_any _ _).mono ?_; rintro e' w' ⟨rfl, rfl⟩)
        refine bodyPost_end (results_none rfl _ _ _) rfl ?_
        exact ⟨rfl, tb_t tb_g (tb_t tb_s (tb_t tb_g tb_g)), low, PRaw.pat HH.out HR3.out Hhi.out.1 Hhi.out.2 Hc.out (by have := Hroom.out; have := HE.out; simp at *; omega) (by rw [if_pos hg]; have := HL.out; omega)⟩
end Go.Proofs.YtfjiceoagenfnaaDoor
