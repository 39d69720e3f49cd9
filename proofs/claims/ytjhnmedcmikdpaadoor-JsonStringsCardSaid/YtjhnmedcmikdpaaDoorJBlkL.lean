/- The law JsonBlanks: its walk. -/
import Derived.Test.YtjhnmedcmikdpaaDoorJGen
import Derived.Test.YtjhnmedcmikdpaaDoorJNumL
import Derived.Lib.SmallJoins
namespace Go.Proofs.YtjhnmedcmikdpaaDoor
open Go.RowKit Go.Shelf Go.Lib

def blankQ : List UInt8 := [32, 9, 10, 13]
def blk (c : UInt8) : UInt8 := blankQ.getD (c.toNat % 4) 0
theorem blk_blank (c : UInt8) : blankB.contains (blk c) = true := by
  have hh : ∀ n : Nat, n < 4 → blankB.contains (blankQ.getD n 0) = true := by decide
  exact hh _ (Nat.mod_lt _ (by decide))

theorem same_box {w : World} {F G : Nat → Prop} {d : Nat} {k1 k2 : Int} {t1 t2 : ByteArray} {P1 P2 Q1 Q2 : Option Addr} {p1 p2 q1 q2 pc1 pc2 qc1 qc2 : Nat} {x : JV} (hV : VAt w F d ⟨k1, t1, .slice P1 p1 pc1, .slice Q1 q1 qc1⟩ x) (gV : VAt w G d ⟨k2, t2, .slice P2 p2 pc2, .slice Q2 q2 qc2⟩ x) (hF : ∀ g, F g → g < w.heap.size) (hG : ∀ g, G g → g < w.heap.size) (hs : SM 4611686018427387904 d x) :
    Calls Tryd.prog 14 #[.agg #[.int .i64 k1, .string t1, .slice P1 p1 pc1, .slice Q1 q1 qc1], .agg #[.int .i64 k2, .string t2, .slice P2 p2 pc2, .slice Q2 q2 qc2]] w fun e w' => e = .returned (.bool true) ∧ Below w.heap.size w w' :=
  same_any d d w F G ⟨k1, t1, .slice P1 p1 pc1, .slice Q1 q1 qc1⟩ ⟨k2, t2, .slice P2 p2 pc2, .slice Q2 q2 qc2⟩ x hV gV hF hG hs
theorem same_under {w w0 : World} {F G : Nat → Prop} {d : Nat} {k1 k2 : Int} {t1 t2 : ByteArray} {P1 P2 Q1 Q2 : Option Addr} {p1 p2 q1 q2 pc1 pc2 qc1 qc2 : Nat} {x : JV} (hb : Below w.heap.size w w0) (hV : VAt w F d ⟨k1, t1, .slice P1 p1 pc1, .slice Q1 q1 qc1⟩ x) (gV : VAt w G d ⟨k2, t2, .slice P2 p2 pc2, .slice Q2 q2 qc2⟩ x) (hF : ∀ g, F g → g < w.heap.size) (hG : ∀ g, G g → g < w.heap.size) (hs : SM 4611686018427387904 d x) :
    Calls Tryd.prog 14 #[.agg #[.int .i64 k1, .string t1, .slice P1 p1 pc1, .slice Q1 q1 qc1], .agg #[.int .i64 k2, .string t2, .slice P2 p2 pc2, .slice Q2 q2 qc2]] w0 fun e w' => e = .returned (.bool true) ∧ Below w.heap.size w w' :=
  (same_box (hV.keep fun g hg => ⟨hg, hb.block g (hF g hg)⟩) (gV.keep fun g hg => ⟨hg, hb.block g (hG g hg)⟩) (fun g hg => Nat.lt_of_lt_of_le (hF g hg) hb.size) (fun g hg => Nat.lt_of_lt_of_le (hG g hg) hb.size) hs).mono fun _ _ ⟨h1, h2⟩ => ⟨h1, hb.trans (h2.mono hb.size)⟩
/-- The parts of a list of two in a box. -/
theorem two_parts {w : World} {F : Nat → Prop} {k : Int} {t : ByteArray} {A1 A2 : Option Addr} {n1 c1 n2 c2 : Nat} {x y : JV} (h : VAt w F 33 ⟨k, t, .slice A1 n1 c1, .slice A2 n2 c2⟩ (.mk 6 noT [] [x, y])) :
    k = 6 ∧ n2 = 2 ∧ ∃ g o, A2 = some ⟨g, o, none⟩ ∧ F g ∧ ∃ (k0 : Int) (t0 : ByteArray) (P0 : Option Addr) (p0 pc0 : Nat) (Q0 : Option Addr) (q0 qc0 : Nat) (k1 : Int) (t1 : ByteArray) (P1 : Option Addr) (p1 pc1 : Nat) (Q1 : Option Addr) (q1 qc1 : Nat),
      (w.cell? ⟨g, o, none⟩ = some (.int .i64 k0) ∧ w.cell? ⟨g, o + 1, none⟩ = some (.string t0) ∧ w.cell? ⟨g, o + 2, none⟩ = some (.slice P0 p0 pc0) ∧ w.cell? ⟨g, o + 3, none⟩ = some (.slice Q0 q0 qc0)) ∧
      (w.cell? ⟨g, o + 4, none⟩ = some (.int .i64 k1) ∧ w.cell? ⟨g, o + 5, none⟩ = some (.string t1) ∧ w.cell? ⟨g, o + 6, none⟩ = some (.slice P1 p1 pc1) ∧ w.cell? ⟨g, o + 7, none⟩ = some (.slice Q1 q1 qc1)) ∧
      VAt w F 33 ⟨k0, t0, .slice P0 p0 pc0, .slice Q0 q0 qc0⟩ x ∧ VAt w F 33 ⟨k1, t1, .slice P1 p1 pc1, .slice Q1 q1 qc1⟩ y := by
  obtain ⟨hk, -, -, A, c, hl, -, hx⟩ := h
  simp only at hk hl
  injection hl with e1 e2 e3
  subst hk
  obtain ⟨g, o, ⟨k0, t0, v0, l0⟩, ha, hg, a0, a1, a2, a3, hv0⟩ := hx 0 x rfl
  obtain ⟨g', o', ⟨k1, t1, v1, l1⟩, ha', hg', b0, b1, b2, b3, hv1⟩ := hx 1 y rfl
  rw [ha] at ha'
  cases ha'
  obtain ⟨P0, p0, pc0, Q0, q0, qc0, rfl, rfl⟩ := hv0.slices
  obtain ⟨P1, p1, pc1, Q1, q1, qc1, rfl, rfl⟩ := hv1.slices
  simp only [Nat.zero_mul, Nat.one_mul, Nat.add_zero, Nat.add_assoc, Nat.reduceAdd] at a0 a1 a2 a3 b0 b1 b2 b3
  exact ⟨rfl, e2, g, o, by rw [e1, ha], hg, k0, t0, P0, p0, pc0, Q0, q0, qc0, k1, t1, P1, p1, pc1, Q1, q1, qc1, ⟨a0, a1, a2, a3⟩, ⟨b0, b1, b2, b3⟩, hv0.deeper, hv1.deeper⟩
theorem code_not {e : Int} (h : Code e) : ¬ e = 0 := by rcases h with h | h <;> omega
theorem told_one {a u : List UInt8} {x y : JV} {e f : Int} (hu : ∀ c ∈ u, blankB.contains c = true) (ha : a.length ≤ 262144) (hs : (u ++ a ++ u).length ≤ 262144) (h1 : Told a x e) (h2 : Told (u ++ a ++ u) y f) : y = x ∧ f = e := by
  obtain ⟨b1, b2⟩ := blanks_one hu ha hs
  rcases h1 with ⟨h1, rfl⟩ | ⟨q, h1, hc, rfl⟩
  · rcases h2 with ⟨h2, rfl⟩ | ⟨q, h2, _, _⟩
    · rw [b1 x h1] at h2; cases h2; exact ⟨rfl, rfl⟩
    · rw [b1 x h1] at h2; cases h2
  · obtain ⟨p', hp⟩ := b2 _ _ h1
    rcases h2 with ⟨h2, _⟩ | ⟨q, h2, _, rfl⟩
    · rw [hp] at h2; cases h2
    · rw [hp] at h2; cases h2; exact ⟨rfl, rfl⟩
theorem told_zero {a : List UInt8} {x : JV} {e : Int} (h : Told a x e) (h0 : e = 0) : parseN a = .ok x := by
  rcases h with ⟨h1, _⟩ | ⟨_, _, hc, _⟩
  · exact h1
  · exact absurd h0 (code_not hc)
theorem told_two {a b u s : List UInt8} {x y z : JV} {e : Int} (hu : ∀ c ∈ u, blankB.contains c = true) (ha : Told a x 0) (hb : Told b y 0) (hs : s = u ++ 91 :: (u ++ (a ++ (u ++ 44 :: (u ++ (b ++ (u ++ [93]))))))) (hl : s.length ≤ 262144) (h : Told s z e) :
    (e = 0 ∧ z = .mk 6 noT [] [x, y]) ∨ e = 12 := by
  rcases blanks_two hu (told_zero ha rfl) (told_zero hb rfl) hs hl with h1 | ⟨p, h1⟩
  · rcases h with ⟨h2, rfl⟩ | ⟨q, h2, _, _⟩
    · rw [h1] at h2; cases h2; exact .inl ⟨rfl, rfl⟩
    · rw [h1] at h2; cases h2
  · rcases h with ⟨h2, _⟩ | ⟨q, h2, _, _⟩
    · rw [h1] at h2; cases h2
    · rw [h1] at h2; cases h2; exact .inr rfl
/-- A value in a box of the call's own. -/
structure BX (w : World) (n : Nat) (k : Int) (t : ByteArray) (A1 : Option Addr) (n1 c1 : Nat) (A2 : Option Addr) (n2 c2 : Nat) (x : JV) : Prop where
  box : w.heap[n]? = some (.cells #[.int .i64 k, .string t, .slice A1 n1 c1, .slice A2 n2 c2] 25 (0, 0))
  val : ∃ F, VAt w F 33 ⟨k, t, .slice A1 n1 c1, .slice A2 n2 c2⟩ x ∧ ∀ g, F g → g < w.heap.size
section
variable {w w' : World} {n : Nat} {k : Int} {t : ByteArray} {A1 : Option Addr} {n1 c1 : Nat} {A2 : Option Addr} {n2 c2 : Nat} {x : JV}
theorem BX.on (h : BX w n k t A1 n1 c1 A2 n2 c2 x) (hb : Below w.heap.size w w') : BX w' n k t A1 n1 c1 A2 n2 c2 x := by
  obtain ⟨F, hV, hF⟩ := h.val
  exact ⟨(hb.block n (blk_lt h.box)).trans h.box, F, hV.keep fun g hg => ⟨hg, hb.block g (hF g hg)⟩, fun g hg => Nat.lt_of_lt_of_le (hF g hg) hb.size⟩
theorem BX.new {F : Nat → Prop} (hV : VAt w F 33 ⟨k, t, .slice A1 n1 c1, .slice A2 n2 c2⟩ x) (hF : ∀ g, F g → g < w.heap.size) : BX (w.alloc (Obj.cells #[.int .i64 k, .string t, .slice A1 n1 c1, .slice A2 n2 c2] 25 (0, 0))) w.heap.size k t A1 n1 c1 A2 n2 c2 x :=
  have hb := Joins.below_alloc1 w (Obj.cells #[.int .i64 k, .string t, .slice A1 n1 c1, .slice A2 n2 c2] 25 (0, 0))
  ⟨heap_alloc_new w _, F, hV.keep fun g hg => ⟨hg, hb.block g (hF g hg)⟩, fun g hg => Nat.lt_of_lt_of_le (hF g hg) hb.size⟩
theorem BX.cells (h : BX w n k t A1 n1 c1 A2 n2 c2 x) : w.cell? ⟨n, 0, none⟩ = some (.int .i64 k) ∧ w.cell? ⟨n, 1, none⟩ = some (.string t) ∧ w.cell? ⟨n, 2, none⟩ = some (.slice A1 n1 c1) ∧ w.cell? ⟨n, 3, none⟩ = some (.slice A2 n2 c2) :=
  ⟨blk_cell h.box 0, blk_cell h.box 1, blk_cell h.box 2, blk_cell h.box 3⟩
end

set_option maxHeartbeats 4000000 in
set_option maxRecDepth 100000 in
theorem blanks_walk {W : World} (hE : Env W) {A B U : Option Addr} {xa xb xu : List UInt8} {ca cb cu : Nat} (hA : Lib.BytesAt W A xa.length xa) (hB : Lib.BytesAt W B xb.length xb) (hU : Lib.BytesAt W U xu.length xu)
    (nA : A = none → ca = 0) (nB : B = none → cb = 0) :
    Calls Tryd.prog 5 #[.slice A xa.length ca, .slice B xb.length cb, .slice U xu.length cu] W fun e w' => e = .returned (.bool true) ∧ Below W.heap.size W w' := by
  have HA := Lib.hid (fun W' (hb : Below W.heap.size W W') => answers_any (hE.on hb))
  have HE := Lib.hid hE
  have HB0 := Lib.hid (Below.refl W.heap.size W)
  have HYA := Lib.hid hA
  have HYB := Lib.hid hB
  have HYU := Lib.hid hU
  clear hE hA hB hU
  have big : ∀ (_ : (10000 : Int) < (xa.length : Int) ∨ (¬ (10000 : Int) < (xa.length : Int) ∧ (10000 : Int) < (xb.length : Int)) ∨ (¬ (10000 : Int) < (xa.length : Int) ∧ ¬ (10000 : Int) < (xb.length : Int) ∧ (100 : Int) < (xu.length : Int))),
      Calls Tryd.prog 5 #[.slice A xa.length ca, .slice B xb.length cb, .slice U xu.length cu] W fun e w' => e = .returned (.bool true) ∧ Below W.heap.size W w' := by
    rintro (h1 | ⟨h1, h2⟩ | ⟨h1, h2, h3⟩)
    all_goals
      go_enter Tryd.func5, Tryd.ntmps5
      go_wp2_with (first
        | (go_at_call 12; (with_reducible refine (HA.out _ HB0.out).mono ?_); rintro e' W1 ⟨rfl, hB1⟩; have HB1 := Lib.hid hB1; clear hB1)
        | (go_at_call 12; (with_reducible refine (HA.out _ HB1.out).mono ?_); rintro e' W2 ⟨rfl, hB2⟩; have HB2 := Lib.hid (HB1.out.trans (hB2.mono HB1.out.size)); clear hB2))
      go_ret
      exact ⟨rfl, HB2.out⟩
  by_cases h1 : (10000 : Int) < (xa.length : Int)
  · exact big (.inl h1)
  by_cases h2 : (10000 : Int) < (xb.length : Int)
  · exact big (.inr (.inl ⟨h1, h2⟩))
  by_cases h3 : (100 : Int) < (xu.length : Int)
  · exact big (.inr (.inr ⟨h1, h2, h3⟩))
  clear big
  have hla : xa.length ≤ 10000 := by omega
  have hlb : xb.length ≤ 10000 := by omega
  have hlu : xu.length ≤ 100 := by omega
  go_enter Tryd.func5, Tryd.ntmps5
  go_wp2_with (go_at_call 12; (with_reducible refine (HA.out _ HB0.out).mono ?_); rintro e' W1 ⟨rfl, hB1⟩; have HB1 := Lib.hid hB1; clear hB1)
  clear HA
  go_loopw [7, 8] (fun v i wr => ∃ j : Nat, i = .int .i64 j ∧ j ≤ xu.length ∧ Hid (BRow W1 v ((xu.take j).map blk) wr)) (fun _ i _ => xu.length - (RowKit.intOf i).toNat)
  case atStart => exact ⟨0, rfl, by omega, BRow.none W1⟩
  case round =>
    obtain ⟨j, rfl, hj, HR⟩ := hrel
    by_cases hlt : j < xu.length
    · have hl : (j : Int) < (xu.length : Int) := by omega
      have hl0 : (0 : Int) ≤ (j : Int) := by omega
      obtain ⟨x, hx⟩ : ∃ x, xu[j]? = some x := ⟨xu[j], List.getElem?_eq_getElem hlt⟩
      have hbw := HB1.out.trans (HR.out.1.mono HB1.out.size)
      obtain ⟨g, o, rfl, hc⟩ := bytes_on HYU.out (grew_of hbw none) (fun _ _ => by simp) (by omega)
      have hcq := hc j hlt
      rw [show xu.getD j 0 = x by simp [List.getD_eq_getElem?_getD, hx]] at hcq
      have htk : (xu.take (j + 1)).map blk = (xu.take j).map blk ++ [blk x] := by
        rw [List.take_add_one, hx, List.map_append]; rfl
      have HT := Lib.hid htk
      have hx4 := x.toNat_lt
      obtain ⟨r, hr⟩ : ∃ r, r = x.toNat % 4 := ⟨_, rfl⟩
      have hrm : ((x.toNat : Nat) : Int).tmod 4 = (r : Int) := by rw [Int.tmod_eq_emod_of_nonneg (by omega)]; omega
      have HBK : Hid (blk x = blankQ.getD r 0) := by rw [hr]; rfl
      have hr4 : r < 4 := by omega
      clear hx hc htk hr hbw
      rcases (show r = 0 ∨ r = 1 ∨ r = 2 ∨ r = 3 by omega) with rfl | rfl | rfl | rfl
      · go_wp2_with (at_builtin; go_must (refine append_by (HR.out.on (Joins.below_alloc1 _ _)) [32] _ 1 (bytes_lit (s := [32]) rfl) (fun e => by cases e) (by simp; omega) rfl _ _ rfl rfl rfl ?_; rintro v' w' HR'; have HR2 := Lib.hid HR'; clear HR'))
        refine ⟨⟨j + 1, by go_num, by omega, ?_⟩, by simp [RowKit.intOf]; omega⟩
        show BRow _ _ _ _
        rw [HT.out, HBK.out]
        exact HR2.out
      · go_wp2_with (at_builtin; go_must (refine append_by (HR.out.on (Joins.below_alloc1 _ _)) [9] _ 1 (bytes_lit (s := [9]) rfl) (fun e => by cases e) (by simp; omega) rfl _ _ rfl rfl rfl ?_; rintro v' w' HR'; have HR2 := Lib.hid HR'; clear HR'))
        refine ⟨⟨j + 1, by go_num, by omega, ?_⟩, by simp [RowKit.intOf]; omega⟩
        show BRow _ _ _ _
        rw [HT.out, HBK.out]
        exact HR2.out
      · go_wp2_with (at_builtin; go_must (refine append_by (HR.out.on (Joins.below_alloc1 _ _)) [10] _ 1 (bytes_lit (s := [10]) rfl) (fun e => by cases e) (by simp; omega) rfl _ _ rfl rfl rfl ?_; rintro v' w' HR'; have HR2 := Lib.hid HR'; clear HR'))
        refine ⟨⟨j + 1, by go_num, by omega, ?_⟩, by simp [RowKit.intOf]; omega⟩
        show BRow _ _ _ _
        rw [HT.out, HBK.out]
        exact HR2.out
      · go_wp2_with (at_builtin; go_must (refine append_by (HR.out.on (Joins.below_alloc1 _ _)) [13] _ 1 (bytes_lit (s := [13]) rfl) (fun e => by cases e) (by simp; omega) rfl _ _ rfl rfl rfl ?_; rintro v' w' HR'; have HR2 := Lib.hid HR'; clear HR'))
        refine ⟨⟨j + 1, by go_num, by omega, ?_⟩, by simp [RowKit.intOf]; omega⟩
        show BRow _ _ _ _
        rw [HT.out, HBK.out]
        exact HR2.out
    · have hl : ¬ (j : Int) < (xu.length : Int) := by omega
      have hR0 := HR.out
      rw [List.take_of_length_le (by omega)] at hR0
      obtain ⟨u, hu⟩ : ∃ u, u = xu.map blk := ⟨_, rfl⟩
      have hub : ∀ c ∈ u, blankB.contains c = true := fun c hc => by
        rw [hu] at hc
        obtain ⟨y, _, rfl⟩ := List.mem_map.1 hc
        exact blk_blank y
      have hul : u.length ≤ 100 := by rw [hu, List.length_map]; exact hlu
      rw [← hu] at hR0
      clear hu HR
      obtain ⟨Av, cv, rfl, -, hbv, -, -⟩ := hR0.at
      have HU := Lib.hid hub
      have HRU := Lib.hid hR0
      clear hR0 hub
      have HYA2 := Lib.hid (fun W' (hb : Below W.heap.size W W') => bytes_on HYA.out (grew_of hb none) (fun _ _ => by simp))
      have HYB2 := Lib.hid (fun W' (hb : Below W.heap.size W W') => bytes_on HYB.out (grew_of hb none) (fun _ _ => by simp))
      have HW2 := Lib.hid (HB1.out.trans (HRU.out.1.mono HB1.out.size))
      go_upto_region 9 with (first
        | (at_builtin; go_must (refine append_by (BRow.made wr wr (Below.refl _ _)) xa A ca (HYA2.out _ (HW2.out.alloc HW2.out.size _)) nA (by simp; omega) rfl _ _ rfl rfl rfl ?_; rintro v8 w8 HR8; rw [List.nil_append] at HR8; obtain ⟨A8, c8, rfl, hY8, hb8, hl8, hm8⟩ := HR8.at; have HR8' := Lib.hid HR8; have HB8 := Lib.hid (HW2.out.trans (HR8.1.mono HW2.out.size)); have HY8 := Lib.hid hY8; have Hb8 := Lib.hid hb8; have Hm8 := Lib.hid hm8; clear hY8 hb8 hm8 HR8))
        | (go_at_call 13; (with_reducible refine (parse_gen (HE.out.on HB8.out) HY8.out (fun ad e => (Hb8.out ad e).2) hl8 (by have := Hm8.out; unfold maxLen at this; omega)).mono ?_); rintro e' w9 ⟨k1, t1, P1, p1, pc1, Q1, q1, qc1, at1, e1, x1, F1, rfl, hb9, hV1, hF1, hT1⟩; have HT1 := Lib.hid hT1; have hw9 := HR8'.out.1.trans (hb9.mono HR8'.out.1.size); have hB10 := HW2.out.trans ((hw9.alloc hw9.size (Obj.cells #[.int .i64 k1, .string t1, .slice P1 p1 pc1, .slice Q1 q1 qc1] 25 (0, 0))).mono HW2.out.size); have hR10 := HRU.out.on (hw9.alloc hw9.size (Obj.cells #[.int .i64 k1, .string t1, .slice P1 p1 pc1, .slice Q1 q1 qc1] 25 (0, 0))); have hX1 := BX.new hV1 hF1; have HB10 := Lib.hid hB10; have HR10 := Lib.hid hR10; have HX1 := Lib.hid hX1; clear hb9 hV1 hF1 hT1 hw9 hB10 hR10 hX1))
      clear HR8' HB8 HY8 Hb8 Hm8 hl8 HRU HW2
      generalize (w9.alloc (Obj.cells #[.int .i64 k1, .string t1, .slice P1 p1 pc1, .slice Q1 q1 qc1] 25 (0, 0))) = w10 at *
      generalize w9.heap.size = n1 at *
      go_upto_region 10 with (first
        | (at_builtin; go_must (refine append_by (BRow.made w10 w10 (Below.refl _ _)) xb B cb (HYB2.out _ (HB10.out.alloc HB10.out.size _)) nB (by simp; omega) rfl _ _ rfl rfl rfl ?_; rintro v8 w8 HR8; rw [List.nil_append] at HR8; obtain ⟨A8, c8, rfl, hY8, hb8, hl8, hm8⟩ := HR8.at; have HR8' := Lib.hid HR8; have HB8 := Lib.hid (HB10.out.trans (HR8.1.mono HB10.out.size)); have HY8 := Lib.hid hY8; have Hb8 := Lib.hid hb8; have Hm8 := Lib.hid hm8; clear hY8 hb8 hm8 HR8))
        | (go_at_call 13; (with_reducible refine (parse_gen (HE.out.on HB8.out) HY8.out (fun ad e => (Hb8.out ad e).2) hl8 (by have := Hm8.out; unfold maxLen at this; omega)).mono ?_); rintro e' w9 ⟨k2, t2, P2, p2, pc2, Q2, q2, qc2, at2, e2, x2, F2, rfl, hb9, hV2, hF2, hT2⟩; have HT2 := Lib.hid hT2; have hw9 := HR8'.out.1.trans (hb9.mono HR8'.out.1.size); have hw10 := hw9.alloc hw9.size (Obj.cells #[.int .i64 k2, .string t2, .slice P2 p2 pc2, .slice Q2 q2 qc2] 25 (0, 0)); have HB13 := Lib.hid (HB10.out.trans (hw10.mono HB10.out.size)); have HR13 := Lib.hid (HR10.out.on hw10); have HX1' := Lib.hid (HX1.out.on hw10); have HX2 := Lib.hid (BX.new hV2 hF2); clear hb9 hV2 hF2 hT2 hw9 hw10))
      clear HR8' HB8 HY8 Hb8 Hm8 hl8 HX1 HR10 HB10
      generalize (w9.alloc (Obj.cells #[.int .i64 k2, .string t2, .slice P2 p2 pc2, .slice Q2 q2 qc2] 25 (0, 0))) = w13 at *
      generalize w9.heap.size = n2 at *
      obtain ⟨Av', cv', ev, hY13, hb13, -, -⟩ := HR13.out.at
      cases ev
      have hcu := conv_str (c := cv) hY13
      have hca := conv_str (c := ca) (HYA2.out _ HB13.out)
      have hcb := conv_str (c := cb) (HYB2.out _ HB13.out)
      clear hY13 hb13
      obtain ⟨l1, hl1⟩ : ∃ l, l = u ++ xa ++ u := ⟨_, rfl⟩
      have hS1 : (({ data := u.toArray } ++ { data := xa.toArray } ++ { data := u.toArray } : ByteArray)).data.toList = l1 := by rw [hl1]; simp
      have hz1 : (({ data := u.toArray } ++ { data := xa.toArray } ++ { data := u.toArray } : ByteArray)).size = l1.length := by rw [Lib.size_eq, hS1]
      have hll1 : l1.length ≤ 10200 := by rw [hl1]; simp only [List.length_append]; omega
      obtain ⟨w14, c14, hc14, hb14, hs14, hY14, hl14, hm14⟩ := conv_bytes w13 ({ data := u.toArray } ++ { data := xa.toArray } ++ { data := u.toArray }) (by omega)
      rw [hz1] at hc14 hl14
      rw [hS1] at hY14
      have HB14 := Lib.hid (HB13.out.trans (hb14.mono HB13.out.size))
      have HY14 := Lib.hid hY14
      have Hb14 := Lib.hid hb14
      have HL1 := Lib.hid hl1
      have Hs14 := Lib.hid hs14
      clear hb14 hY14 hS1 hz1 hl1 hs14
      go_upto_region 12 with (go_at_call 13; (with_reducible refine (parse_gen (HE.out.on HB14.out) HY14.out (fun ad e => by cases e; have := Hs14.out; show w13.heap.size < _; omega) hl14 hm14).mono ?_); rintro e' w15 ⟨k3, t3, P3, p3, pc3, Q3, q3, qc3, at3, e3, x3, F3, rfl, hb15, hV3, hF3, hT3⟩; have HT3 := Lib.hid hT3; have hw15 := Hb14.out.trans (hb15.mono Hb14.out.size); have hw16 := hw15.alloc hw15.size (Obj.cells #[.int .i64 k3, .string t3, .slice P3 p3 pc3, .slice Q3 q3 qc3] 25 (0, 0)); have HB16 := Lib.hid (HB13.out.trans (hw16.mono HB13.out.size)); have HR16 := Lib.hid (HR13.out.on hw16); have HX1 := Lib.hid (HX1'.out.on hw16); have HX2' := Lib.hid (HX2.out.on hw16); have HX3 := Lib.hid (BX.new hV3 hF3); clear hb15 hV3 hF3 hT3 hw15 hw16)
      clear HX1' HX2 HR13 HB13 HB14 HY14 Hb14 Hs14 hl14 hm14 hc14 hcu hca hcb
      generalize (w15.alloc (Obj.cells #[.int .i64 k3, .string t3, .slice P3 p3 pc3, .slice Q3 q3 qc3] 25 (0, 0))) = w16 at *
      generalize w15.heap.size = n3 at *
      obtain ⟨ex, ee⟩ := told_one HU.out (by omega) (by rw [← HL1.out]; omega) HT1.out (HL1.out ▸ HT3.out)
      subst ex ee
      clear HT3
      obtain ⟨a0, a1, a2, a3⟩ := HX1.out.cells
      obtain ⟨b0, b1, b2, b3⟩ := HX3.out.cells
      have HS1 : Hid (Calls Tryd.prog 14 #[.agg #[.int .i64 k1, .string t1, .slice P1 p1 pc1, .slice Q1 q1 qc1], .agg #[.int .i64 k3, .string t3, .slice P3 p3 pc3, .slice Q3 q3 qc3]] w16 fun e w' => e = .returned (.bool true) ∧ Below w16.heap.size w16 w') := by
        obtain ⟨F, hV, hF⟩ := HX1.out.val
        obtain ⟨G, gV, hG⟩ := HX3.out.val
        exact same_box hV gV hF hG (HT1.out.sm (by omega))
      obtain ⟨l2, hl2⟩ : ∃ l, l = u ++ 91 :: (u ++ (xa ++ (u ++ 44 :: (u ++ (xb ++ (u ++ [93])))))) := ⟨_, rfl⟩
      have hS2 : ({ data := u.toArray } ++ { data := #[91] } ++ { data := u.toArray } ++ { data := xa.toArray } ++ { data := u.toArray } ++ { data := #[44] } ++ { data := u.toArray } ++ { data := xb.toArray } ++ { data := u.toArray } ++ { data := #[93] } : ByteArray).data.toList = l2 := by rw [hl2]; simp
      have hll2 : l2.length ≤ 20600 := by rw [hl2]; simp only [List.length_append, List.length_cons, List.length_nil]; omega
      have HC2 : Hid (∀ W', ∃ W1 cap, (convert 9 26 (.string ({ data := u.toArray } ++ { data := #[91] } ++ { data := u.toArray } ++ { data := xa.toArray } ++ { data := u.toArray } ++ { data := #[44] } ++ { data := u.toArray } ++ { data := xb.toArray } ++ { data := u.toArray } ++ { data := #[93] } : ByteArray))).run Tryd.prog W' = .ok (.slice (some ⟨W'.heap.size, 0, none⟩) l2.length cap) W1 ∧ Below W'.heap.size W' W1 ∧ W1.heap.size = W'.heap.size + 1 ∧
          Lib.BytesAt W1 (some ⟨W'.heap.size, 0, none⟩) l2.length l2 ∧ l2.length ≤ cap ∧ cap ≤ 9223372036854775807) := fun W' => by
        have hz2 : ({ data := u.toArray } ++ { data := #[91] } ++ { data := u.toArray } ++ { data := xa.toArray } ++ { data := u.toArray } ++ { data := #[44] } ++ { data := u.toArray } ++ { data := xb.toArray } ++ { data := u.toArray } ++ { data := #[93] } : ByteArray).size = l2.length := by rw [Lib.size_eq, hS2]
        obtain ⟨W1, cap, g1, g2, g3, g4, g5, g6⟩ := conv_bytes W' ({ data := u.toArray } ++ { data := #[91] } ++ { data := u.toArray } ++ { data := xa.toArray } ++ { data := u.toArray } ++ { data := #[44] } ++ { data := u.toArray } ++ { data := xb.toArray } ++ { data := u.toArray } ++ { data := #[93] } : ByteArray) (by omega)
        rw [hz2] at g1 g5
        rw [hS2] at g4
        exact ⟨W1, cap, g1, g2, g3, g4, g5, g6⟩
      have HL2 := Lib.hid hl2
      clear hS2 hl2
      go_upto_region 15 with (first
        | (go_at_call 14; (with_reducible refine HS1.out.mono ?_); rintro e' w17 ⟨rfl, hb17⟩; have HB17 := Lib.hid (HB16.out.trans (hb17.mono HB16.out.size)); have hca := conv_str (c := ca) (HYA2.out _ HB17.out); have hcb := conv_str (c := cb) (HYB2.out _ HB17.out); obtain ⟨w18, c18, hc18, hb18, hs18, hY18, hl18, hm18⟩ := HC2.out w17; have HB18 := Lib.hid (HB17.out.trans (hb18.mono HB17.out.size)); have HY18 := Lib.hid hY18; have Hb18 := Lib.hid (hb17.trans (hb18.mono hb17.size)); have Hs18 := Lib.hid hs18; clear hb17 hb18 hY18 hs18)
        | (go_at_call 13; (with_reducible refine (parse_gen (HE.out.on HB18.out) HY18.out (fun ad e => by cases e; have := Hs18.out; show w17.heap.size < _; omega) hl18 hm18).mono ?_); rintro e' w19 ⟨k4, t4, P4, p4, pc4, Q4, q4, qc4, at4, e4, x4, F4, rfl, hb19, hV4, hF4, hT4⟩; have HT4 := Lib.hid hT4; have hw19 := Hb18.out.trans (hb19.mono Hb18.out.size); have hw20 := hw19.alloc hw19.size (Obj.cells #[.int .i64 k4, .string t4, .slice P4 p4 pc4, .slice Q4 q4 qc4] 25 (0, 0)); have HB20 := Lib.hid (HB16.out.trans (hw20.mono HB16.out.size)); have HX1' := Lib.hid (HX1.out.on hw20); have HX2'' := Lib.hid (HX2'.out.on hw20); have HX4 := Lib.hid (BX.new hV4 hF4); clear hb19 hV4 hF4 hT4 hw19 hw20))
      clear HX1 HX2' HX3 HR16 a0 a1 a2 a3 b0 b1 b2 b3 HS1 HB16 HB17 HB18 HY18 Hb18 Hs18 hl18 hm18 hca hcb hc18 HC2
      generalize (w19.alloc (Obj.cells #[.int .i64 k4, .string t4, .slice P4 p4 pc4, .slice Q4 q4 qc4] 25 (0, 0))) = w20 at *
      generalize w19.heap.size = n4 at *
      by_cases z1 : e3 = 0
      · by_cases z2 : e2 = 0
        · have HTT := told_two HU.out (z1 ▸ HT1.out) (z2 ▸ HT2.out) HL2.out (by omega) HT4.out
          subst z1 z2
          rcases HTT with ⟨ez, exx⟩ | ez
          · subst ez exx
            obtain ⟨F4, hV4, hF4⟩ := HX4.out.val
            obtain ⟨F1, hV1, hF1⟩ := HX1'.out.val
            obtain ⟨F2, hV2, hF2⟩ := HX2''.out.val
            obtain ⟨rfl, rfl, g, o, rfl, hFg, ka, ta, Pa, pa, pca, Qa, qa, qca, kb, tb, Pb, pb, pcb, Qb, qb, qcb, ⟨u0, u1, u2, u3⟩, ⟨v0, v1, v2, v3⟩, hva, hvb⟩ := two_parts hV4
            have HSa := Lib.hid (fun w0 hb => same_under (w0 := w0) hb hva hV1 hF4 hF1 (HT1.out.sm (by omega)))
            have HSb := Lib.hid (fun w0 hb => same_under (w0 := w0) hb hvb hV2 hF4 hF2 (HT2.out.sm (by omega)))
            have hgl := hF4 g hFg
            have HK : Hid (∀ w0, Below w20.heap.size w20 w0 → (w0.cell? ⟨n4, 0, none⟩ = some (.int .i64 6) ∧ w0.cell? ⟨n4, 3, none⟩ = some (.slice (some ⟨g, o, none⟩) 2 qc4)) ∧
                (w0.cell? ⟨g, o, none⟩ = some (.int .i64 ka) ∧ w0.cell? ⟨g, o + 1, none⟩ = some (.string ta) ∧ w0.cell? ⟨g, o + 2, none⟩ = some (.slice Pa pa pca) ∧ w0.cell? ⟨g, o + 3, none⟩ = some (.slice Qa qa qca)) ∧
                (w0.cell? ⟨g, o + 4, none⟩ = some (.int .i64 kb) ∧ w0.cell? ⟨g, o + 5, none⟩ = some (.string tb) ∧ w0.cell? ⟨g, o + 6, none⟩ = some (.slice Pb pb pcb) ∧ w0.cell? ⟨g, o + 7, none⟩ = some (.slice Qb qb qcb)) ∧
                (w0.cell? ⟨n1, 0, none⟩ = some (.int .i64 k1) ∧ w0.cell? ⟨n1, 1, none⟩ = some (.string t1) ∧ w0.cell? ⟨n1, 2, none⟩ = some (.slice P1 p1 pc1) ∧ w0.cell? ⟨n1, 3, none⟩ = some (.slice Q1 q1 qc1)) ∧
                (w0.cell? ⟨n2, 0, none⟩ = some (.int .i64 k2) ∧ w0.cell? ⟨n2, 1, none⟩ = some (.string t2) ∧ w0.cell? ⟨n2, 2, none⟩ = some (.slice P2 p2 pc2) ∧ w0.cell? ⟨n2, 3, none⟩ = some (.slice Q2 q2 qc2))) := fun w0 hb => by
              have hh := hb.block g hgl
              obtain ⟨y0, _, _, y3⟩ := (HX4.out.on hb).cells
              exact ⟨⟨y0, y3⟩, ⟨(cell_keep hh _).trans u0, (cell_keep hh _).trans u1, (cell_keep hh _).trans u2, (cell_keep hh _).trans u3⟩, ⟨(cell_keep hh _).trans v0, (cell_keep hh _).trans v1, (cell_keep hh _).trans v2, (cell_keep hh _).trans v3⟩, (HX1'.out.on hb).cells, (HX2''.out.on hb).cells⟩
            have HBR := Lib.hid (Below.refl w20.heap.size w20)
            have HBD : Hid (Below w20.heap.size w20 w20.drew) := below_drew HBR.out
            clear u0 u1 u2 u3 v0 v1 v2 v3 hva hvb hV4 hV1 hV2 hF4 hF1 hF2 hFg hgl HX4 HX1' HX2'' HT1 HT2 HT4
            go_wp2_with fail
            go_region_held3 (fun w0 => (w0.cell? ⟨n4, 0, none⟩ = some (.int .i64 6) ∧ w0.cell? ⟨n4, 3, none⟩ = some (.slice (some ⟨g, o, none⟩) 2 qc4)) ∧
                (w0.cell? ⟨g, o, none⟩ = some (.int .i64 ka) ∧ w0.cell? ⟨g, o + 1, none⟩ = some (.string ta) ∧ w0.cell? ⟨g, o + 2, none⟩ = some (.slice Pa pa pca) ∧ w0.cell? ⟨g, o + 3, none⟩ = some (.slice Qa qa qca)) ∧
                (w0.cell? ⟨g, o + 4, none⟩ = some (.int .i64 kb) ∧ w0.cell? ⟨g, o + 5, none⟩ = some (.string tb) ∧ w0.cell? ⟨g, o + 6, none⟩ = some (.slice Pb pb pcb) ∧ w0.cell? ⟨g, o + 7, none⟩ = some (.slice Qb qb qcb)) ∧
                (w0.cell? ⟨n1, 0, none⟩ = some (.int .i64 k1) ∧ w0.cell? ⟨n1, 1, none⟩ = some (.string t1) ∧ w0.cell? ⟨n1, 2, none⟩ = some (.slice P1 p1 pc1) ∧ w0.cell? ⟨n1, 3, none⟩ = some (.slice Q1 q1 qc1)) ∧
                (w0.cell? ⟨n2, 0, none⟩ = some (.int .i64 k2) ∧ w0.cell? ⟨n2, 1, none⟩ = some (.string t2) ∧ w0.cell? ⟨n2, 2, none⟩ = some (.slice P2 p2 pc2) ∧ w0.cell? ⟨n2, 3, none⟩ = some (.slice Q2 q2 qc2))) (first | exact HK.out _ HBR.out | exact HK.out _ HBD.out | exact HK.out _ (Hid.out (by assumption))) ((first
              | (go_at_call 14; (with_reducible refine (HSa.out _ (by first | exact HBD.out | exact HBR.out | exact (Hid.out (by assumption)))).mono ?_); rintro e'' Wi ⟨rfl, hBi⟩; have HBI := Lib.hid hBi; clear hBi)
              | (go_at_call 14; (with_reducible refine (HSb.out _ (by first | exact HBD.out | exact HBR.out | exact (Hid.out (by assumption)))).mono ?_); rintro e'' Wj ⟨rfl, hBi⟩; have HBJ := Lib.hid hBi; clear hBi)))
            go_wp2_with fail
            go_ret
            exact ⟨rfl, by first | exact HB20.out.trans (HBJ.out.mono HB20.out.size) | exact HB20.out.trans (HBI.out.mono HB20.out.size)⟩
          · subst ez
            go_wp2_with fail
            go_ret
            exact ⟨rfl, HB20.out⟩
        · have hz : (e2 != 0) = true := by simpa using z2
          have hy : (e3 != 0) = false := by simpa using z1
          go_wp2_with fail
          go_ret
          exact ⟨rfl, HB20.out⟩
      · have hz : (e3 != 0) = true := by simpa using z1
        go_wp2_with fail
        go_ret
        exact ⟨rfl, HB20.out⟩
end Go.Proofs.YtjhnmedcmikdpaaDoor
