/- Parse: which value the bytes are, or where and why not. -/
import Derived.Test.YtmjooghfghmngaaDoorJRec
namespace Go.Proofs.YtmjooghfghmngaaDoor
open Go.RowKit Go.Shelf Go.Lib

/-- What Parse answers. -/
def OutP (w : World) (r : RR JV) (e : Ending) (w' : World) : Prop :=
  Below w.heap.size w w' ∧ ((∃ p x F, r = .ok x ∧ e = .returned (.tuple #[PV.val p, .int .i64 0, .int .i64 0]) ∧ VAt w' F 33 p x ∧ ∀ k, F k → w.heap.size ≤ k ∧ k < w'.heap.size) ∨ (∃ (a : Nat) (e' : Int), r = .error (a, e') ∧ e = .returned (.tuple #[PV.val zeroPV, .int .i64 a, .int .i64 e'])))

theorem rd_start {w W : World} {n : Nat} {A : Option Addr} {c : Nat} {s : List UInt8} (hB : Lib.BytesAt w A s.length s) (hA : ∀ ad, A = some ad → ad.block < w.heap.size) (hle : s.length ≤ c) (hcap : c ≤ 9223372036854775807)
    (hT : Lib.Utf8Tabs 0 1 w) (_h0 : 0 < w.heap.size) (h1 : 1 < w.heap.size) (hs : s.length ≤ 262144)
    (hW : Below w.heap.size w W) (hn : w.heap.size ≤ n) (hb : W.heap[n]? = some (.cells #[.int .i64 0, .int .i64 0, .string ⟨#[]⟩, .slice A s.length c, .int .i64 0] 53 (0, 0))) : Rd W n A c s 0 0 noT 0 :=
  { blk := hb, far := fun ad e => by have := hA ad e; omega, bytes := bytes_on hB (grew_of hW none) (fun _ _ => by simp), le := hle, cap := hcap, small := hs, pos := Nat.zero_le _, tabs := tabs_on hT (grew_of hW none) (by simp) (by simp), off := ⟨by omega, by omega⟩ }

set_option maxHeartbeats 1000000 in
theorem Parse_large {w : World} {A : Option Addr} {c : Nat} {s : List UInt8} (hs : 262144 < s.length) :
    Calls Tryd.prog 13 #[.slice A s.length c] w (OutP w (parseN s)) := by
  have hr : parseN s = .error (0, 12) := by unfold parseN; rw [if_pos hs]
  rw [hr]
  obtain ⟨R, hR⟩ : ∃ R, R = OutP w (.error (0, 12)) := ⟨_, rfl⟩
  rw [← hR]
  have HR := Lib.hid hR
  clear hR hr
  have hl : (262144 : Int) < (s.length : Int) := by omega
  go_enter_defers Tryd.func13, Tryd.ntmps13
  go_wp2_with fail
  have h0 := heap_alloc_new w (Obj.cells #[.int .i64 0, .string ⟨#[]⟩, .slice none 0 0, .slice none 0 0] 25)
  have hB : Below w.heap.size w (((w.alloc (Obj.cells #[.int .i64 0, .string ⟨#[]⟩, .slice none 0 0, .slice none 0 0] 25)).alloc (Obj.cells #[.int .i64 0] 3)).alloc (Obj.cells #[.int .i64 12] 27)) := by go_grown
  simp [bodyPostD, Leaves, results, Tryd.results13, go_sem]
  rw [HR.out]
  exact ⟨hB, .inr ⟨0, 12, rfl, rfl⟩⟩

section
variable {n : Nat} {R : Ending → World → Prop} {W : World} {t0 t1 t5 t6 t7 t8 t9 t10 t11 t12 t13 t14 t15 t16 : Value}
theorem leaves_fault {a0 a1 a2 a3 : Value} {x y a e : Int} (hV : W.heap[n]? = some (.cells #[a0, a1, a2, a3] 25 (0, 0))) (hA : W.heap[n + 1]? = some (.cells #[.int .i64 x] 3 (0, 0))) (hE : W.heap[n + 2]? = some (.cells #[.int .i64 y] 27 (0, 0)))
    (hR : ∀ W', Below n W W' → R (.returned (.tuple #[PV.val zeroPV, .int .i64 a, .int .i64 e])) W') :
    Leaves Tryd.prog Tryd.f13 #[t0, t1, .pointer (some ⟨n, 0, none⟩), .pointer (some ⟨n + 1, 0, none⟩), .pointer (some ⟨n + 2, 0, none⟩), t5, t6, t7, t8, t9, t10, t11, t12, t13, t14, t15, t16] R
      [{ target := .fn (.func 21) #[.pointer (some ⟨n, 0, none⟩), .pointer (some ⟨n + 1, 0, none⟩), .pointer (some ⟨n + 2, 0, none⟩)], args := #[] }] (PanFault a e false) W := by
  refine leaves_cons (f := 21) (args := #[.pointer (some ⟨n, 0, none⟩), .pointer (some ⟨n + 1, 0, none⟩), .pointer (some ⟨n + 2, 0, none⟩)]) (by simp) (by simp [go_sem]) ?_
  refine (catch_fault hV hA hE).mono ?_
  rintro e' u w' ⟨rfl, rfl, hb, h0, h1, h2⟩
  have c0 : w'.cell? ⟨n, 0, none⟩ = some (.int .i64 0) := blk_cell h0 0
  have c1 : w'.cell? ⟨n, 1, none⟩ = some (.string ⟨#[]⟩) := blk_cell h0 1
  have c2 : w'.cell? ⟨n, 2, none⟩ = some (.slice none 0 0) := blk_cell h0 2
  have c3 : w'.cell? ⟨n, 3, none⟩ = some (.slice none 0 0) := blk_cell h0 3
  have c4 : w'.cell? ⟨n + 1, 0, none⟩ = some (.int .i64 a) := blk_cell h1 0
  have c5 : w'.cell? ⟨n + 2, 0, none⟩ = some (.int .i64 e) := blk_cell h2 0
  have HR := Lib.hid (hR w' hb)
  clear hR
  simp [Leaves, settle, results, Tryd.results13, go_sem, c0, c1, c2, c3, c4, c5]
  exact HR.out
theorem leaves_good {A2 A3 : Option Addr} {n2 n3 m2 m3 : Nat} {k : Int} {t : ByteArray} {x y : Int} (hV : W.heap[n]? = some (.cells #[.int .i64 k, .string t, .slice A2 n2 m2, .slice A3 n3 m3] 25 (0, 0))) (hA : W.heap[n + 1]? = some (.cells #[.int .i64 x] 3 (0, 0))) (hE : W.heap[n + 2]? = some (.cells #[.int .i64 y] 27 (0, 0)))
    (hR : R (.returned (.tuple #[.agg #[.int .i64 k, .string t, .slice A2 n2 m2, .slice A3 n3 m3], .int .i64 x, .int .i64 y])) W) :
    Leaves Tryd.prog Tryd.f13 #[t0, t1, .pointer (some ⟨n, 0, none⟩), .pointer (some ⟨n + 1, 0, none⟩), .pointer (some ⟨n + 2, 0, none⟩), t5, t6, t7, t8, t9, t10, t11, t12, t13, t14, t15, t16] R
      [{ target := .fn (.func 21) #[.pointer (some ⟨n, 0, none⟩), .pointer (some ⟨n + 1, 0, none⟩), .pointer (some ⟨n + 2, 0, none⟩)], args := #[] }] .returning W := by
  refine leaves_cons (f := 21) (args := #[.pointer (some ⟨n, 0, none⟩), .pointer (some ⟨n + 1, 0, none⟩), .pointer (some ⟨n + 2, 0, none⟩)]) (by simp) (by simp [go_sem]) ?_
  refine (catch_idle _ _ _ _).mono ?_
  rintro e' u w' ⟨rfl, rfl, rfl⟩
  have c0 : w'.cell? ⟨n, 0, none⟩ = some (.int .i64 k) := blk_cell hV 0
  have c1 : w'.cell? ⟨n, 1, none⟩ = some (.string t) := blk_cell hV 1
  have c2 : w'.cell? ⟨n, 2, none⟩ = some (.slice A2 n2 m2) := blk_cell hV 2
  have c3 : w'.cell? ⟨n, 3, none⟩ = some (.slice A3 n3 m3) := blk_cell hV 3
  have c4 : w'.cell? ⟨n + 1, 0, none⟩ = some (.int .i64 x) := blk_cell hA 0
  have c5 : w'.cell? ⟨n + 2, 0, none⟩ = some (.int .i64 y) := blk_cell hE 0
  have HR := Lib.hid hR
  clear hR
  simp [Leaves, settle, results, Tryd.results13, go_sem, c0, c1, c2, c3, c4, c5]
  exact HR.out
end

theorem end_world {n : Nat} {W : World} {k : Int} {t : ByteArray} {v2 v3 : Value} (hV : W.heap[n]? = some (.cells #[.int .i64 k, .string t, v2, v3] 25 (0, 0))) (hA : W.heap[n + 1]? = some (.cells #[.int .i64 0] 3 (0, 0))) (hE : W.heap[n + 2]? = some (.cells #[.int .i64 0] 27 (0, 0))) :
    ∃ X, X = ((((((W.setCell ⟨n, 0, none⟩ (.int .i64 k)).setCell ⟨n, 1, none⟩ (.string t)).setCell ⟨n, 2, none⟩ v2).setCell ⟨n, 3, none⟩ v3).setCell ⟨n + 1, 0, none⟩ (.int .i64 0)).setCell ⟨n + 1 + 1, 0, none⟩ (.int .i64 0)) ∧ X.heap[n]? = some (.cells #[.int .i64 k, .string t, v2, v3] 25 (0, 0)) ∧ X.heap[n + 1]? = some (.cells #[.int .i64 0] 3 (0, 0)) ∧ X.heap[n + 2]? = some (.cells #[.int .i64 0] 27 (0, 0)) ∧
      (X.heap.size = W.heap.size ∧ ∀ j, n + 2 < j → X.heap[j]? = W.heap[j]?) ∧ (∀ {m : Nat} {w0 : World}, m ≤ n → Below m w0 W → Below m w0 X) := by
  refine ⟨_, rfl, ?_, ?_, ?_, ⟨?_, fun j hj => ?_⟩, fun hm hB => ?_⟩
  · simp [World.setCell, Array.getElem?_modify, hV]
    try (intro h; omega)
  · simp [World.setCell, Array.getElem?_modify, hA]
    try (intro h; omega)
  · simp [World.setCell, Array.getElem?_modify, hE]
    try (intro h; omega)
  · simp [World.setCell]
  · exact (Below.heap_setCell _ _ _ j (by show j ≠ n + 1 + 1; omega)).trans ((Below.heap_setCell _ _ _ j (by show j ≠ n + 1; omega)).trans ((Below.heap_setCell _ _ _ j (by show j ≠ n; omega)).trans ((Below.heap_setCell _ _ _ j (by show j ≠ n; omega)).trans ((Below.heap_setCell _ _ _ j (by show j ≠ n; omega)).trans (Below.heap_setCell _ _ _ j (by show j ≠ n; omega))))))
  · have h0 := hB.setCell (p := ⟨n, 0, none⟩) hm (.int .i64 k)
    have h1 := h0.setCell (p := ⟨n, 1, none⟩) hm (.string t)
    have h2 := h1.setCell (p := ⟨n, 2, none⟩) hm v2
    have h3 := h2.setCell (p := ⟨n, 3, none⟩) hm v3
    have h4 := h3.setCell (p := ⟨n + 1, 0, none⟩) (Nat.le_succ_of_le hm) (.int .i64 0)
    exact h4.setCell (p := ⟨n + 1 + 1, 0, none⟩) (Nat.le_succ_of_le (Nat.le_succ_of_le hm)) (.int .i64 0)

set_option maxHeartbeats 1000000 in
theorem Parse_small {w : World} {A : Option Addr} {c : Nat} {s : List UInt8} (hB : Lib.BytesAt w A s.length s) (hA : ∀ ad, A = some ad → ad.block < w.heap.size) (hle : s.length ≤ c) (hcap : c ≤ 9223372036854775807)
    (hT : Lib.Utf8Tabs 0 1 w) (h0 : 0 < w.heap.size) (h1 : 1 < w.heap.size) (hs : s.length ≤ 262144) :
    Calls Tryd.prog 13 #[.slice A s.length c] w (OutP w (parseN s)) := by
  have hmf : ∀ (fn : Fn) (first cap : Array Value) (w : World), (Instr.makeFunc fn first cap).run Tryd.prog w = .ok (.func fn first cap) w := fun _ _ _ _ => rfl
  have HRd := Lib.hid (fun W n => rd_start (W := W) (n := n) hB hA hle hcap hT h0 h1 hs)
  have hl : ¬ (262144 : Int) < (s.length : Int) := by omega
  have HAA := Lib.hid hA
  clear hB hA hT
  obtain ⟨R, hR⟩ : ∃ R, R = OutP w (parseN s) := ⟨_, rfl⟩
  rw [← hR]
  have HR := Lib.hid hR
  clear hR
  obtain ⟨n, hn⟩ : ∃ n, n = w.heap.size := ⟨_, rfl⟩
  have HP : Hid (parseN s = match tokN s 0 with | .error e => .error e | .ok t1 => match valN s 32 t1 with | .error e => .error e | .ok y => if y.2.k = 0 then .ok y.1 else .error (y.2.a, 11)) := by
    show parseN s = _
    unfold parseN
    rw [if_neg (by omega)]
    cases tokN s 0 <;> rfl
  go_enter_defers Tryd.func13, Tryd.ntmps13
  go_wp2_with fail
  have B4 : Below w.heap.size w ((((w.alloc (Obj.cells #[.int .i64 0, .string ⟨#[]⟩, .slice none 0 0, .slice none 0 0] 25)).alloc (Obj.cells #[.int .i64 0] 3)).alloc (Obj.cells #[.int .i64 0] 27)).alloc (Obj.cells #[.int .i64 0, .int .i64 0, .string ⟨#[]⟩, .slice A s.length c, .int .i64 0] 53)) := by go_grown
  have v0 := heap_alloc_new w (Obj.cells #[.int .i64 0, .string ⟨#[]⟩, .slice none 0 0, .slice none 0 0] 25)
  have v1 := heap_alloc_new (w.alloc (Obj.cells #[.int .i64 0, .string ⟨#[]⟩, .slice none 0 0, .slice none 0 0] 25)) (Obj.cells #[.int .i64 0] 3)
  have v2 := heap_alloc_new ((w.alloc (Obj.cells #[.int .i64 0, .string ⟨#[]⟩, .slice none 0 0, .slice none 0 0] 25)).alloc (Obj.cells #[.int .i64 0] 3)) (Obj.cells #[.int .i64 0] 27)
  have v3 := heap_alloc_new (((w.alloc (Obj.cells #[.int .i64 0, .string ⟨#[]⟩, .slice none 0 0, .slice none 0 0] 25)).alloc (Obj.cells #[.int .i64 0] 3)).alloc (Obj.cells #[.int .i64 0] 27)) (Obj.cells #[.int .i64 0, .int .i64 0, .string ⟨#[]⟩, .slice A s.length c, .int .i64 0] 53)
  simp only [World.size_alloc, ← hn] at v0 v1 v2 v3 B4
  have hV4 := blk_alloc (blk_alloc (blk_alloc v0 (Obj.cells #[.int .i64 0] 3)) (Obj.cells #[.int .i64 0] 27)) (Obj.cells #[.int .i64 0, .int .i64 0, .string ⟨#[]⟩, .slice A s.length c, .int .i64 0] 53)
  have hA4 := blk_alloc (blk_alloc v1 (Obj.cells #[.int .i64 0] 27)) (Obj.cells #[.int .i64 0, .int .i64 0, .string ⟨#[]⟩, .slice A s.length c, .int .i64 0] 53)
  have hE4 := blk_alloc v2 (Obj.cells #[.int .i64 0, .int .i64 0, .string ⟨#[]⟩, .slice A s.length c, .int .i64 0] 53)
  have r4 := HRd.out _ _ (hn ▸ B4) (by omega) v3
  clear v0 v1 v2 v3
  have B4w := hn ▸ B4
  simp only [← hn]
  generalize ((((w.alloc (Obj.cells #[.int .i64 0, .string ⟨#[]⟩, .slice none 0 0, .slice none 0 0] 25)).alloc (Obj.cells #[.int .i64 0] 3)).alloc (Obj.cells #[.int .i64 0] 27)).alloc (Obj.cells #[.int .i64 0, .int .i64 0, .string ⟨#[]⟩, .slice A s.length c, .int .i64 0] 53)) = W4 at *
  have hn4 : n < W4.heap.size ∧ n + 1 < W4.heap.size ∧ n + 2 < W4.heap.size := ⟨blk_lt hV4, blk_lt hA4, blk_lt hE4⟩
  have hnw : w.heap.size ≤ n := by omega
  clear hn
  go_at_call 22
  refine (next_any r4).mono ?_
  rintro e' W5 hO
  obtain ⟨hG5, ⟨tk, htk, rfl, r5⟩ | ⟨a, htk, rfl⟩⟩ := OutT.tok hO
  · have hP := HP.out
    rw [htk] at hP
    have hP2 : parseN s = match valN s 32 tk with | .error e => .error e | .ok y => if y.2.k = 0 then .ok y.1 else .error (y.2.a, 11) := hP
    have HP := Lib.hid hP2
    clear hP hP2 hO
    have htw := tokN_tw (Nat.zero_le _) htk
    have hv := value_any 32 (by decide) W5 tk r5 htw.2
    rw [show (32 : Int) - ((32 : Nat) : Int) = 0 by decide] at hv
    have hV5 := (hG5.block n hn4.1 (by simp; try omega)).trans hV4
    have hA5 := (hG5.block (n + 1) hn4.2.1 (by simp; try omega)).trans hA4
    have hE5 := (hG5.block (n + 2) hn4.2.2 (by simp)).trans hE4
    have hB5 : Below w.heap.size w W5 := below_of B4w (by omega) hG5
    have hn5 : n < W5.heap.size ∧ n + 1 < W5.heap.size ∧ n + 2 < W5.heap.size := ⟨blk_lt hV5, blk_lt hA5, blk_lt hE5⟩
    clear hV4 hA4 hE4 B4 B4w hG5 r4 htk htw hn4 HRd
    go_wp2_with fail
    go_at_call 23
    (with_reducible refine hv.mono ?_)
    clear hv
    rintro e' W6 ⟨hG6, ⟨p, x, tk2, F, hr, rfl, r6, hVA, hF⟩ | ⟨a, e'', hr, rfl⟩⟩
    · have hP := HP.out
      rw [hr] at hP
      have hP2 : parseN s = if tk2.k = 0 then .ok x else .error (tk2.a, 11) := hP
      have HP := Lib.hid hP2
      clear hP hP2 hr
      have hV6 := (hG6.block n hn5.1 (by simp; try omega)).trans hV5
      have hA6 := (hG6.block (n + 1) hn5.2.1 (by simp; try omega)).trans hA5
      have hE6 := (hG6.block (n + 2) hn5.2.2 (by simp)).trans hE5
      have hB6 : Below w.heap.size w W6 := below_of hB5 (by omega) hG6
      obtain ⟨pk, pt, pkv, plv⟩ := p
      obtain ⟨A1, n1, c1, A2, n2, c2, rfl, rfl⟩ := hVA.slices
      have q0 : W6.cell? ⟨n, 0, none⟩ = some (.int .i64 0) := blk_cell hV6 0
      have q1 : W6.cell? ⟨n, 1, none⟩ = some (.string ⟨#[]⟩) := blk_cell hV6 1
      have q2 : W6.cell? ⟨n, 2, none⟩ = some (.slice none 0 0) := blk_cell hV6 2
      have q3 : W6.cell? ⟨n, 3, none⟩ = some (.slice none 0 0) := blk_cell hV6 3
      have f0 := blk_frozen hV6 0
      have f1 := blk_frozen hV6 1
      have f2 := blk_frozen hV6 2
      have f3 := blk_frozen hV6 3
      have HVA := Lib.hid hVA
      have HF := Lib.hid hF
      have HG6 := Lib.hid hG6
      have HB6 := Lib.hid hB6
      have HV6 := Lib.hid hV6
      have HA6 := Lib.hid hA6
      have HE6 := Lib.hid hE6
      have HR6 := Lib.hid r6
      have HS5 : Hid (n + 2 < W5.heap.size ∧ w.heap.size ≤ W5.heap.size) := ⟨hn5.2.2, hB5.size⟩
      clear hVA hF hG6 hB6 hV6 hA6 hE6 r6 hV5 hA5 hE5 hB5 r5 hn5
      unfold PV.val
      go_wp2_with fail
      have g7 : W6.grownBy ((((W6.setCell ⟨n, 0, none⟩ (.int .i64 pk)).setCell ⟨n, 1, none⟩ (.string pt)).setCell ⟨n, 2, none⟩ (.slice A1 n1 c1)).setCell ⟨n, 3, none⟩ (.slice A2 n2 c2)) (some n) := grew_set (grew_set (grew_set (grew_set (World.grownBy.refl W6 (some n)) 0 _) 1 _) 2 _) 3 _
      have r7 := HR6.out.other g7 (by omega) (fun ad e => by have := HAA.out ad e; omega) (by omega) (by omega)
      have hV7 : ((((W6.setCell ⟨n, 0, none⟩ (.int .i64 pk)).setCell ⟨n, 1, none⟩ (.string pt)).setCell ⟨n, 2, none⟩ (.slice A1 n1 c1)).setCell ⟨n, 3, none⟩ (.slice A2 n2 c2)).heap[n]? = some (.cells #[.int .i64 pk, .string pt, .slice A1 n1 c1, .slice A2 n2 c2] 25 (0, 0)) := blk_set (blk_set (blk_set (blk_set HV6.out 0 _) 1 _) 2 _) 3 _
      have hA7 := (g7.block (n + 1) (blk_lt HA6.out) (by simp; try omega)).trans HA6.out
      have hE7 := (g7.block (n + 2) (blk_lt HE6.out) (by simp; try omega)).trans HE6.out
      have hB7 := below_of HB6.out hnw g7
      have hVA7 := HVA.out.keep (W' := ((((W6.setCell ⟨n, 0, none⟩ (.int .i64 pk)).setCell ⟨n, 1, none⟩ (.string pt)).setCell ⟨n, 2, none⟩ (.slice A1 n1 c1)).setCell ⟨n, 3, none⟩ (.slice A2 n2 c2))) (F' := F) (fun k hk => ⟨hk, g7.block k (HF.out k hk).2 (by have := (HF.out k hk).1; have := HS5.out; simp; omega)⟩)
      have hF7 : ∀ k, F k → n + 2 < k ∧ k < ((((W6.setCell ⟨n, 0, none⟩ (.int .i64 pk)).setCell ⟨n, 1, none⟩ (.string pt)).setCell ⟨n, 2, none⟩ (.slice A1 n1 c1)).setCell ⟨n, 3, none⟩ (.slice A2 n2 c2)).heap.size := fun k hk => ⟨by have := (HF.out k hk).1; have := HS5.out; omega, by have := (HF.out k hk).2; have := g7.size; omega⟩
      clear q0 q1 q2 q3 f0 f1 f2 f3 HVA HF HG6 HB6 HV6 HA6 HE6 HR6 g7
      generalize ((((W6.setCell ⟨n, 0, none⟩ (.int .i64 pk)).setCell ⟨n, 1, none⟩ (.string pt)).setCell ⟨n, 2, none⟩ (.slice A1 n1 c1)).setCell ⟨n, 3, none⟩ (.slice A2 n2 c2)) = W7 at *
      by_cases hk : tk2.k = 0
      · rw [hk] at r7
        have hP := HP.out
        rw [if_pos hk] at hP
        have HP := Lib.hid hP
        clear hP hk
        go_at_call 24
        refine (want_yes r7).mono ?_
        rintro e' wz ⟨rfl, hwz⟩
        have hwz := hwz.symm
        subst hwz
        have q0 : W7.cell? ⟨n, 0, none⟩ = some (.int .i64 pk) := blk_cell hV7 0
        have q1 : W7.cell? ⟨n, 1, none⟩ = some (.string pt) := blk_cell hV7 1
        have q2 : W7.cell? ⟨n, 2, none⟩ = some (.slice A1 n1 c1) := blk_cell hV7 2
        have q3 : W7.cell? ⟨n, 3, none⟩ = some (.slice A2 n2 c2) := blk_cell hV7 3
        have q4 : W7.cell? ⟨n + 1, 0, none⟩ = some (.int .i64 0) := blk_cell hA7 0
        have q5 : W7.cell? ⟨n + 2, 0, none⟩ = some (.int .i64 0) := blk_cell hE7 0
        have f0 := blk_frozen hV7 0
        have f1 := blk_frozen hV7 1
        have f2 := blk_frozen hV7 2
        have f3 := blk_frozen hV7 3
        have f4 := blk_frozen hA7 0
        have f5 := blk_frozen hE7 0
        have HVA := Lib.hid hVA7
        have HF := Lib.hid hF7
        have HB7 := Lib.hid hB7
        have HV7 := Lib.hid hV7
        have HA7 := Lib.hid hA7
        have HE7 := Lib.hid hE7
        clear hVA7 hF7 hB7 hV7 hA7 hE7 r7
        go_wp2_with fail
        obtain ⟨X, hX, z1, z2, z3, z4, z5⟩ := end_world HV7.out HA7.out HE7.out
        rw [← hX]
        clear hX q0 q1 q2 q3 q4 q5 f0 f1 f2 f3 f4 f5
        refine leaves_good z1 z2 z3 ?_
        have hz := z5 hnw HB7.out
        rw [HR.out, HP.out]
        refine ⟨hz, .inl ⟨⟨pk, pt, .slice A1 n1 c1, .slice A2 n2 c2⟩, x, F, rfl, rfl, ?_, fun k hk => ⟨by have := (HF.out k hk).1; omega, by have := (HF.out k hk).2; rw [z4.1]; exact this⟩⟩⟩
        exact HVA.out.keep fun k hk => ⟨hk, z4.2 k (by have := (HF.out k hk).1; omega)⟩
      · go_at_call 24
        refine (want_no r7 0 hk).mono ?_
        rintro e' W8 ⟨rfl, hB8⟩
        have h5 := (hB8.block n (blk_lt hV7)).trans hV7
        have h6 := (hB8.block (n + 1) (blk_lt hA7)).trans hA7
        have h7 := (hB8.block (n + 2) (blk_lt hE7)).trans hE7
        refine leaves_fault h5 h6 h7 fun W' hb => ?_
        rw [HR.out, HP.out, if_neg hk]
        have hB8' : Below w.heap.size w W8 := hB7.trans (hB8.mono hB7.size)
        exact ⟨hB8'.trans (hb.mono (by omega)), .inr ⟨tk2.a, 11, rfl, rfl⟩⟩
    · have hP := HP.out
      rw [hr] at hP
      have h5 := (hG6.block n hn5.1 (by simp; try omega)).trans hV5
      have h6 := (hG6.block (n + 1) hn5.2.1 (by simp; try omega)).trans hA5
      have h7 := (hG6.block (n + 2) hn5.2.2 (by simp)).trans hE5
      refine leaves_fault h5 h6 h7 fun W' hb => ?_
      rw [HR.out, hP]
      have hB6 : Below w.heap.size w W6 := below_of hB5 (by omega) hG6
      exact ⟨hB6.trans (hb.mono (by omega)), .inr ⟨a, e'', rfl, rfl⟩⟩
  · have hP := HP.out
    rw [htk] at hP
    have h5 := (hG5.block n hn4.1 (by simp; try omega)).trans hV4
    have h6 := (hG5.block (n + 1) hn4.2.1 (by simp; try omega)).trans hA4
    have h7 := (hG5.block (n + 2) hn4.2.2 (by simp)).trans hE4
    refine leaves_fault h5 h6 h7 fun W' hb => ?_
    rw [HR.out, hP]
    have hB5 : Below w.heap.size w W5 := below_of B4w (by omega) hG5
    exact ⟨hB5.trans (hb.mono (by omega)), .inr ⟨a, 11, rfl, rfl⟩⟩

theorem Parse_any {w : World} {A : Option Addr} {c : Nat} {s : List UInt8} (hB : Lib.BytesAt w A s.length s) (hA : ∀ ad, A = some ad → ad.block < w.heap.size) (hle : s.length ≤ c) (hcap : c ≤ 9223372036854775807)
    (hT : Lib.Utf8Tabs 0 1 w) (h0 : 0 < w.heap.size) (h1 : 1 < w.heap.size) :
    Calls Tryd.prog 13 #[.slice A s.length c] w (OutP w (parseN s)) := by
  rcases Nat.lt_or_ge 262144 s.length with hs | hs
  · exact Parse_large hs
  · exact Parse_small hB hA hle hcap hT h0 h1 hs
end Go.Proofs.YtmjooghfghmngaaDoor
