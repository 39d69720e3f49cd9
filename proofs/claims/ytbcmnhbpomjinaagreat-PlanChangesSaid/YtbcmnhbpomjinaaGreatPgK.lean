/- The program's loose and apart: do stretches meet but at ends of both? -/
import Derived.Test.YtbcmnhbpomjinaaGreatPgJ
import Derived.Test.YtbcmnhbpomjinaaGreatGeoAns
namespace Go.Proofs.YtbcmnhbpomjinaaGreat
open Go.RowKit

def mvE (a b : EdT) : Int := mv a.1 a.2 b.1 b.2
def looseB (a b : EdT) : Bool := decide (mvE a b = 0) || (decide (mvE a b = 1) && joinB a b)
set_option maxRecDepth 100000 in
set_option maxHeartbeats 1000000 in
theorem loose_any (a b : EdT) (w : World) : Calls Tryz.prog 149 #[.agg #[.int .i64 a.1.1, .int .i64 a.1.2, .int .i64 a.2.1, .int .i64 a.2.2], .agg #[.int .i64 b.1.1, .int .i64 b.1.2, .int .i64 b.2.1, .int .i64 b.2.2]] w fun e' w' => e' = .returned (.bool (looseB a b)) ∧ Below w.heap.size w w' := by
  have HQ := ((Hold.refl w).new #[.int .i64 a.1.1, .int .i64 a.1.2, .int .i64 a.2.1, .int .i64 a.2.2] 30).new' #[.int .i64 b.1.1, .int .i64 b.1.2, .int .i64 b.2.1, .int .i64 b.2.2] 30 (n := w.heap.size + 1) (by simp)
  have HM := Lib.hid (fun W => Meet_any a.1 a.2 b.1 b.2 W)
  have HJ := Lib.hid (fun W => joined_any a b W)
  obtain ⟨m, hm⟩ : ∃ m, mv a.1 a.2 b.1 b.2 = m := ⟨_, rfl⟩
  have hme : mvE a b = m := hm
  rw [hm] at HM
  go_enter Tryz.func149, Tryz.ntmps149
  go_upto_region 1 with (fail)
  generalize (World.alloc _ _) = W1 at HQ ⊢
  generalize w.heap.size + 1 = g1 at HQ ⊢
  obtain ⟨g0, hg0⟩ : ∃ g, w.heap.size = g := ⟨_, rfl⟩
  have HG := Lib.hid hg0
  rw [hg0] at HQ ⊢
  clear hg0 hm
  obtain ⟨c0, c1, c2, c3⟩ := HQ.q4 (List.mem_cons_of_mem _ List.mem_cons_self)
  obtain ⟨k0, k1, k2, k3⟩ := HQ.q4 List.mem_cons_self
  have HQX := Lib.hid HQ
  clear HQ
  by_cases h0 : m = 0
  · have HL : Hid (looseB a b = true) := by unfold Hid looseB; rw [hme, decide_eq_true h0]; rfl
    have e0 : (m == 0) = true := by simpa using h0
    clear hme h0
    go_wp2_with (go_at_call 182; go_must (refine (HM.out _).mono ?_; rintro e' W3 ⟨rfl, hB⟩; have HB3 := Lib.hid (HQX.out.on hB).1; clear hB))
    go_ret
    exact ⟨by rw [HL.out]; rfl, HB3.out⟩
  · by_cases h1 : m = 1
    · have HL : Hid (looseB a b = joinB a b) := by unfold Hid looseB; rw [hme, decide_eq_false h0, decide_eq_true h1]; rfl
      have e0 : (m == 0) = false := by simpa using h0
      have e1 : (m == 1) = true := by simpa using h1
      clear hme h0 h1
      go_wp2_with (first
        | (go_at_call 182; go_must (refine (HM.out _).mono ?_; rintro e' W3 ⟨rfl, hB⟩; have hq3 := HQX.out.on hB; obtain ⟨d0, d1, d2, d3⟩ := hq3.q4 (List.mem_cons_of_mem _ List.mem_cons_self); obtain ⟨f0, f1, f2, f3⟩ := hq3.q4 List.mem_cons_self; have HQ3 := Lib.hid hq3; clear hB hq3))
        | (go_at_call 183; go_must (refine (HJ.out _).mono ?_; rintro e' W4 ⟨rfl, hB⟩; have HB4 := Lib.hid (HQ3.out.on hB).1; clear hB)))
      go_ret
      exact ⟨by rw [HL.out]; rfl, HB4.out⟩
    · have HL : Hid (looseB a b = false) := by unfold Hid looseB; rw [hme, decide_eq_false h0, decide_eq_false h1]; rfl
      have e0 : (m == 0) = false := by simpa using h0
      have e1 : (m == 1) = false := by simpa using h1
      clear hme h0 h1
      go_wp2_with (go_at_call 182; go_must (refine (HM.out _).mono ?_; rintro e' W3 ⟨rfl, hB⟩; have HB3 := Lib.hid (HQX.out.on hB).1; clear hB))
      go_ret
      exact ⟨by rw [HL.out]; rfl, HB3.out⟩

theorem RowI.cap {α : Type} {T : TypeId} {enc : α → List Value} {n : Nat} {w0 W : World} {A : Option Addr} {m c : Nat} {l : List α} (h : RowI w0 T n enc (.slice A m c) l W) : l.length ≤ c := by
  rcases h.2.2 with ⟨_, h0⟩ | ⟨g, cap, cur, e, _, _, h1, _⟩
  · omega
  · cases e; exact h1
def ApartP (ys : List EdT) : Prop := ∀ (i j : Nat) (hi : i < ys.length) (hj : j < i), looseB ys[i] (ys[j]'(by omega)) = true
set_option maxRecDepth 100000 in
set_option maxHeartbeats 1000000 in
theorem apart_any (l : List RV) (Ap : Option Addr) (cp : Nat) (hn : (edgs (rgs l)).length ≤ 1000000) (hl : l.length ≤ 1000000) (hlen : ∀ x ∈ l, x.ring.length ≤ 1000000) (hgd : ∀ x ∈ l, ∀ p ∈ x.ring, Gd p) (w : World) (hr : Rgs w Ap l) :
    Calls Tryz.prog 124 #[.slice Ap l.length cp] w fun e w' => ∃ (b : Bool) (ys : List EdT), e = .returned (.bool b) ∧ ys.Perm (stAll (edgs (rgs l))) ∧ (b = true ↔ ApartP ys) ∧ Below w.heap.size w w' := by
  have HS := Lib.hid (stretches_any l Ap cp hn hl hlen hgd w hr)
  have HSL : Hid ((stAll (edgs (rgs l))).length ≤ 1000000) := by
    have := foldl_stK_len (edgs (rgs l)) []
    unfold Hid stAll
    simp only [List.length_nil] at this
    omega
  clear hr hn hl hlen hgd
  generalize stAll (edgs (rgs l)) = st at *
  go_enter Tryz.func124, Tryz.ntmps124
  go_wp2_with fail
  go_at_call 148
  refine HS.out.mono ?_
  rintro e w1 ⟨v, ys, rfl, hp, HV⟩
  obtain ⟨A1, c1, hv1, HI, HNO⟩ := HV.items
  have hcap : ys.length ≤ c1 := by rw [hv1] at HV; exact HV.cap
  subst hv1
  have HCAP := Lib.hid hcap
  have HP := Lib.hid hp
  have HYL : Hid (ys.length ≤ 1000000) := by have := HSL.out; have := hp.length_eq; unfold Hid; omega
  have HB1 := Lib.hid HV.1
  have HIX := Lib.hid (fun W (h : Below w1.heap.size w1 W) => HI.on h)
  clear hp HV HS HNO HI hcap
  go_wp2_with fail
  go_loopg [12] ys.length (fun g i wr => ∃ k : Nat, k ≤ ys.length ∧ g = ys.length - k ∧ i = .int .i64 k ∧ (∀ (i j : Nat) (hi : i < ys.length) (hj : j < i), i < k → looseB ys[i] (ys[j]'(by omega)) = true) ∧ Below w1.heap.size w1 wr)
  case atStart => exact ⟨0, Nat.zero_le _, rfl, rfl, fun i j hi hj h => absurd h (by omega), Below.refl _ _⟩
  case round =>
    obtain ⟨k, hk, hgk, rfl, hno, HB⟩ := hrel
    have HGK := Lib.hid hgk
    have HNO := Lib.hid hno
    clear hgk hno
    by_cases hlt : k < ys.length
    · obtain ⟨ad, rfl, hadb, hc0, hc⟩ := Items.at kindG.len (HIX.out _ HB) hlt
      have d0 := hc0 _ (by decide) rfl
      have d1 := hc 1 _ (by decide) (by decide) rfl
      have d2 := hc 2 _ (by decide) (by decide) rfl
      have d3 := hc 3 _ (by decide) (by decide) rfl
      have b0 : (0 : Int) ≤ (k : Int) := by omega
      have b1 : (k : Int) < (ys.length : Int) := by omega
      have b2 : (ys.length : Int) ≤ 1000000 := by have := HYL.out; omega
      have b3 : (k : Int) ≤ (c1 : Int) := by have := HCAP.out; omega
      have HX : Hid (∀ j (hj : j < k), looseB ys[k] (ys[j]'(by omega)) = true → True) := fun _ _ _ => trivial
      have HALL : Hid ((∀ j (hj : j < k), looseB ys[k] (ys[j]'(by omega)) = true) → ∀ (i j : Nat) (hi : i < ys.length) (hj : j < i), i < k + 1 → looseB ys[i] (ys[j]'(by omega)) = true) := fun h i j hi hj hik => by
        by_cases e : i = k
        · subst e; exact h j hj
        · exact HNO.out i j hi hj (by omega)
      have HBAD : Hid (∀ j (hj : j < k), looseB ys[k] (ys[j]'(by omega)) = false → ¬ ApartP ys) := fun j hj h ha => by
        have := ha k j hlt hj
        rw [h] at this; cases this
      obtain ⟨a, ha⟩ : ∃ a, ys[k] = a := ⟨_, rfl⟩
      rw [ha] at d0 d1 d2 d3 HALL HBAD
      clear hc0 hc HX ha
      go_upto_region 5 with (fail)
      have HQ := (Hold.refl wr).new #[.int .i64 a.1.1, .int .i64 a.1.2, .int .i64 a.2.1, .int .i64 a.2.2] 30
      have HB2 := HB.alloc HB.size (.cells #[.int .i64 a.1.1, .int .i64 a.1.2, .int .i64 a.2.1, .int .i64 a.2.2] 30 (0, 0))
      clear d0 d1 d2 d3 HB hadb
      generalize (World.alloc _ _) = W2 at HQ HB2 ⊢
      generalize wr.heap.size = g5 at HQ ⊢
      have HQX := Lib.hid HQ
      have HBX := Lib.hid HB2
      clear HQ HB2
      go_wp2_with fail
      go_loopg [21] k (fun g i wr => ∃ m : Nat, m ≤ k ∧ g = k - m ∧ i = .int .i64 m ∧ (∀ j (hj : j < k), j < m → looseB a (ys[j]'(by omega)) = true) ∧ Below w1.heap.size w1 wr ∧ Below W2.heap.size W2 wr)
      case atStart => exact ⟨0, Nat.zero_le _, rfl, rfl, fun j hj h => absurd h (by omega), HBX.out, Below.refl _ _⟩
      case round =>
        obtain ⟨m, hm, hgm, rfl, hnm, HB, HBW⟩ := hrel
        have HGM := Lib.hid hgm
        have HNM := Lib.hid hnm
        clear hgm hnm
        have c2 : (0 : Int) ≤ (m : Int) := by omega
        by_cases hmt : m < k
        · have hmy : m < ys.length := by omega
          obtain ⟨ad', e', hadb', hc0, hc⟩ := Items.at kindG.len (HIX.out _ HB) hmy
          obtain rfl := Option.some.inj e'
          have d0 := hc0 _ (by decide) rfl
          have d1 := hc 1 _ (by decide) (by decide) rfl
          have d2 := hc 2 _ (by decide) (by decide) rfl
          have d3 := hc 3 _ (by decide) (by decide) rfl
          have c3 : (m : Int) < (k : Int) := by omega
          have HN2 : Hid (looseB a ys[m] = true → ∀ j (hj : j < k), j < m + 1 → looseB a (ys[j]'(by omega)) = true) := fun h j hj hjm => by
            by_cases e : j = m
            · subst e; exact h
            · exact HNM.out j hj (by omega)
          have HBD := Lib.hid (HBAD.out m hmt)
          have HLO := Lib.hid (fun W => loose_any a ys[m] W)
          have hq4 := HQX.out.on HBW
          obtain ⟨y, hy⟩ : ∃ y, ys[m] = y := ⟨_, rfl⟩
          rw [hy] at d0 d1 d2 d3 HN2 HBD HLO
          clear hc0 hc e' hy
          have hh : Hold wr [] wr := Hold.refl wr
          go_upto_region 8 with (fail)
          have hq5 := hq4.alloc (.cells #[.int .i64 y.1.1, .int .i64 y.1.2, .int .i64 y.2.1, .int .i64 y.2.2] 30 (0, 0))
          have hq6 := hh.new #[.int .i64 y.1.1, .int .i64 y.1.2, .int .i64 y.2.1, .int .i64 y.2.2] 30
          have HB5 := HB.alloc HB.size (.cells #[.int .i64 y.1.1, .int .i64 y.1.2, .int .i64 y.2.1, .int .i64 y.2.2] 30 (0, 0))
          have HBW5 := HBW.alloc HBW.size (.cells #[.int .i64 y.1.1, .int .i64 y.1.2, .int .i64 y.2.1, .int .i64 y.2.2] 30 (0, 0))
          clear d0 d1 d2 d3 HB HBW hq4 hh hadb'
          generalize (World.alloc _ _) = W5 at hq5 hq6 HB5 HBW5 ⊢
          generalize wr.heap.size = g7 at hq6 ⊢
          obtain ⟨c0', c1', c2', c3'⟩ := hq5.q4 (.head _)
          obtain ⟨k0, k1, k2, k3⟩ := hq6.q4 (.head _)
          have HB6 := Lib.hid HB5
          have HBW6 := Lib.hid HBW5
          clear hq5 hq6 HB5 HBW5
          cases hlb : looseB a y
          · have HD := Lib.hid (HBD.out hlb)
            rw [hlb] at HLO
            clear hlb
            go_wp2_with (go_at_call 149; go_must (refine (HLO.out _).mono ?_; rintro e' W7 ⟨rfl, hB⟩; have HB7 := Lib.hid (Below.trans HB1.out ((Below.trans HB6.out (hB.mono HB6.out.size)).mono HB1.out.size)); clear hB))
            go_ret
            exact ⟨false, ys, rfl, HP.out, ⟨fun h => (by cases h), fun h => absurd h HD.out⟩, HB7.out⟩
          · have HD := Lib.hid (HN2.out hlb)
            rw [hlb] at HLO
            clear hlb
            go_wp2_with (go_at_call 149; go_must (refine (HLO.out _).mono ?_; rintro e' W7 ⟨rfl, hB⟩; have HB7 := Lib.hid (Below.trans HB6.out (hB.mono HB6.out.size)); have HBW7 := Lib.hid (Below.trans HBW6.out (hB.mono HBW6.out.size)); clear hB))
            go_roundg (k - (m + 1))
            case measure => have := HGM.out; omega
            case rel => exact ⟨m + 1, by omega, rfl, by go_num, HD.out, HB7.out, HBW7.out⟩
        · obtain rfl : m = k := by omega
          have HAK : Hid (∀ (i j : Nat) (hi : i < ys.length) (hj : j < i), i < m + 1 → looseB ys[i] (ys[j]'(by omega)) = true) := HALL.out fun j hj => HNM.out j hj hj
          have HB9 := Lib.hid HB
          clear HB HBW
          go_wp2_with fail
          go_roundg (ys.length - (m + 1))
          case measure => have := HGK.out; omega
          case rel => exact ⟨m + 1, by omega, rfl, by go_num, HAK.out, HB9.out⟩
    · obtain rfl : k = ys.length := by omega
      have HA : Hid (ApartP ys) := fun i j hi hj => HNO.out i j hi hj hi
      have HB9 := Lib.hid (Below.trans HB1.out (HB.mono HB1.out.size))
      clear HB HNO
      go_wp2
      go_ret
      exact ⟨true, ys, rfl, HP.out, ⟨fun _ => HA.out, fun _ => rfl⟩, HB9.out⟩
end Go.Proofs.YtbcmnhbpomjinaaGreat
