/- Layer pager, the laws' own: a Pager as a law goes on with it; a program that answers. -/
import Derived.Test.YtfjiceoagenfnaaDoorPOp5
import Derived.Test.YtfjiceoagenfnaaDoorPInv
set_option maxRecDepth 20000
namespace Go.Proofs.YtfjiceoagenfnaaDoor
open Go.RowKit Go.Lib Go.ChangeMaps Go.MapKept

theorem setl_cases {st : DS} (ho : st.out = false) (hz : 2 ≤ st.sz) (q r : Nat) :
    (setlE st q r = 0 ∧ (setlS st q r).out = false ∧ (setlS st q r).log = st.log ++ [(q % 2, rootS (q, r))] ∧ (setlS st q r).n = (setlS st q r).log.length) ∨
    (setlE st q r = 15 ∧ (setlS st q r).log = st.log ∧ ((setlS st q r).n = st.n ∨ (setlS st q r).n = st.log.length)) ∨
    (setlE st q r = 15 ∧ (setlS st q r).log = st.log ++ [(q % 2, rootS (q, r))] ∧ (setlS st q r).n = st.log.length) := by
  have hE0 : barrE st = if (burn st).out = true then 15 else 0 := by unfold barrE; rw [if_neg (by rw [ho]; decide)]
  have hS0 : barrS st = if (burn st).out = true then burn st else { burn st with n := st.log.length } := by unfold barrS; rw [if_neg (by rw [ho]; decide)]
  by_cases h1 : (burn st).out = true
  · rw [if_pos h1] at hE0 hS0
    right; left
    have e1 : setlE st q r = 15 := by unfold setlE; rw [hE0, if_pos (by decide)]
    have e2 : setlS st q r = burn st := by unfold setlS; rw [hE0, if_pos (by decide), hS0]
    rw [e2]
    exact ⟨e1, (burn_log st).1, .inl (burn_log st).2.1⟩
  · rw [if_neg h1] at hE0 hS0
    rw [Bool.not_eq_true] at h1
    have hw := write_ok (st := barrS st) (i := q % 2) (bs := rootS (q, r)) (by rw [hS0]; exact h1) (by rw [(barrS_log st).2]; omega) (rootS_len _)
    have hn1 : (barrS st).n = st.log.length := by rw [hS0]
    have hl1 := (barrS_log st).1
    by_cases h2 : (burn (barrS st)).out = true
    · obtain ⟨a, b⟩ := hw.1 h2
      right; left
      have e1 : setlE st q r = 15 := by unfold setlE; rw [hE0, if_neg (by decide), a, if_pos (by decide)]
      have e2 : setlS st q r = burn (barrS st) := by unfold setlS; rw [hE0, if_neg (by decide), a, if_pos (by decide), b]
      rw [e2]
      exact ⟨e1, by rw [(burn_log _).1, hl1], .inr (by rw [(burn_log _).2.1, hn1])⟩
    · rw [Bool.not_eq_true] at h2
      obtain ⟨a, b⟩ := hw.2 h2
      have e1 : setlE st q r = barrE (wrS (barrS st) (q % 2) (rootS (q, r))) := by unfold setlE; rw [hE0, if_neg (by decide), a, if_neg (by decide), b]
      have e2 : setlS st q r = barrS (wrS (barrS st) (q % 2) (rootS (q, r))) := by unfold setlS; rw [hE0, if_neg (by decide), a, if_neg (by decide), b]
      have hl2 : (wrS (barrS st) (q % 2) (rootS (q, r))).log = st.log ++ [(q % 2, rootS (q, r))] := by show (barrS st).log ++ _ = _; rw [hl1]
      have hn2 : (wrS (barrS st) (q % 2) (rootS (q, r))).n = st.log.length := by show (burn (barrS st)).n = _; rw [(burn_log _).2.1, hn1]
      have ho2 : (wrS (barrS st) (q % 2) (rootS (q, r))).out = false := h2
      rw [e1, e2]
      generalize wrS (barrS st) (q % 2) (rootS (q, r)) = s2 at *
      have hE2 : barrE s2 = if (burn s2).out = true then 15 else 0 := by unfold barrE; rw [if_neg (by rw [ho2]; decide)]
      have hS2 : barrS s2 = if (burn s2).out = true then burn s2 else { burn s2 with n := s2.log.length } := by unfold barrS; rw [if_neg (by rw [ho2]; decide)]
      by_cases h3 : (burn s2).out = true
      · right; right
        rw [if_pos h3] at hE2 hS2
        rw [hE2, hS2]
        exact ⟨rfl, by rw [(burn_log _).1, hl2], by rw [(burn_log _).2.1, hn2]⟩
      · left
        rw [if_neg h3] at hE2 hS2
        rw [Bool.not_eq_true] at h3
        rw [hE2, hS2]
        exact ⟨rfl, h3, by rw [(burn_log _).1, hl2], by show s2.log.length = _; rw [(burn_log _).1]⟩
theorem burn_free {st : DS} (h : st.left = 0) : burn st = st := if_pos h
theorem setl_free {st : DS} (ho : st.out = false) (hz : 2 ≤ st.sz) (hl : st.left = 0) (q r : Nat) : setlE st q r = 0 ∧ (setlS st q r).left = 0 := by
  have hb : (burn st).out = false := by rw [burn_free hl]; exact ho
  have hE0 : barrE st = 0 := by unfold barrE; rw [if_neg (by rw [ho]; decide), if_neg (by rw [hb]; decide)]
  have hS0 : barrS st = { st with n := st.log.length } := by unfold barrS; rw [if_neg (by rw [ho]; decide), if_neg (by rw [hb]; decide), burn_free hl]
  have hw := write_ok (st := barrS st) (i := q % 2) (bs := rootS (q, r)) (by rw [hS0]; exact ho) (by rw [(barrS_log st).2]; omega) (rootS_len _)
  have hb1 : burn (barrS st) = barrS st := burn_free (by rw [hS0]; exact hl)
  obtain ⟨a, b⟩ := hw.2 (by rw [hb1, hS0]; exact ho)
  have hs2 : (wrS (barrS st) (q % 2) (rootS (q, r))).left = 0 := by show (burn (barrS st)).left = 0; rw [hb1, hS0]; exact hl
  have ho2 : (wrS (barrS st) (q % 2) (rootS (q, r))).out = false := by show (burn (barrS st)).out = false; rw [hb1, hS0]; exact ho
  have e1 : setlE st q r = barrE (wrS (barrS st) (q % 2) (rootS (q, r))) := by unfold setlE; rw [hE0, if_neg (by decide), a, if_neg (by decide), b]
  have e2 : setlS st q r = barrS (wrS (barrS st) (q % 2) (rootS (q, r))) := by unfold setlS; rw [hE0, if_neg (by decide), a, if_neg (by decide), b]
  rw [e1, e2]
  generalize wrS (barrS st) (q % 2) (rootS (q, r)) = s2 at *
  have hb2 : burn s2 = s2 := burn_free hs2
  constructor
  · unfold barrE; rw [if_neg (by rw [ho2]; decide), if_neg (by rw [hb2, ho2]; decide)]
  · unfold barrS; rw [if_neg (by rw [ho2]; decide), if_neg (by rw [hb2, ho2]; decide)]
    show (burn s2).left = 0
    rw [hb2]; exact hs2
/-- A Pager as a law goes on with it. -/
def Rn (W0 W : World) (st : DS) (ps : PS) (gd g gs : Nat) : Prop := Below W0.heap.size W0 W ∧ W0.heap.size ≤ g ∧ W0.heap.size ≤ gs ∧ ∃ T : Nat → Prop, (∀ k, T k → W0.heap.size ≤ k) ∧ Bo W T st ps gd g gs
section
variable {W0 W W' : World} {st st' : DS} {ps ps' : PS} {gd g gs : Nat}
theorem Rn.env (h : Rn W0 W st ps gd g gs) (hE : Env W0) : Env W := hE.on h.1
theorem Rn.grow (h : Rn W0 W st ps gd g gs) (hb : Below W.heap.size W W') : Rn W0 W' st ps gd g gs := by
  obtain ⟨a, b, c, T, d, e⟩ := h
  exact ⟨a.trans (hb.mono a.size), b, c, T, d, e.grow hb⟩
theorem Rn.to {T : Nat → Prop} (h : Below W0.heap.size W0 W) (hg : W0.heap.size ≤ g) (hgs : W0.heap.size ≤ gs) (hT : ∀ k, T k → W0.heap.size ≤ k) (hb : BoTo W W' T st' ps' gd g gs) : Rn W0 W' st' ps' gd g gs := by
  obtain ⟨f, T', e, b⟩ := hb
  refine ⟨f.below h h.size (fun k e => ?_), hg, hgs, T', fun k hk => (e.2 k hk).elim (hT k) (fun h2 => by have := h.size; omega), b⟩
  rcases e with e | e | e
  · exact hT k e.1
  · omega
  · omega
theorem Rn.call (h : Rn W0 W st ps gd g gs) {f : FuncId} {args : Array Value} {φ : Ending → Prop} (hc : ∀ T, Bo W T st ps gd g gs → (∀ k, T k → W0.heap.size ≤ k) → Calls Tryd.prog f args W fun e w' => φ e ∧ BoTo W w' T st' ps' gd g gs) :
    Calls Tryd.prog f args W fun e w' => φ e ∧ Rn W0 w' st' ps' gd g gs := by
  obtain ⟨a, b, c, T, d, e⟩ := h
  exact (hc T e d).mono fun e w' ⟨h1, h2⟩ => ⟨h1, Rn.to a b c d h2⟩
theorem Rn.ok (h : Rn W0 W st ps gd g gs) : st.ok := by
  obtain ⟨a, b, c, T, d, e⟩ := h
  exact e.dk.ok
theorem Rn.bo (h : Rn W0 W st ps gd g gs) : ∃ T : Nat → Prop, (∀ k, T k → W0.heap.size ≤ k) ∧ Bo W T st ps gd g gs := h.2.2.2
theorem Rn.pat (h : Rn W0 W st ps gd g gs) : ∃ low, PAt W st.sz ps gd g gs low := by
  obtain ⟨a, b, c, T, d, e⟩ := h
  exact e.pg
theorem no_four {T : Nat → Prop} (hE : Env W0) (hT : ∀ k, T k → W0.heap.size ≤ k) : ¬ T 0 := fun e => by
  have := hT _ e; have := hE.2; omega
/-- New, of a Pager that has room and no limit. -/
theorem Rn.new (hE : Env W0) (h : Rn W0 W st ps gd g gs) (ho : st.out = false) (hl : st.left = 0) (hn : st.log.length ≤ 90000) (hx : ∃ i, 2 ≤ i ∧ i < st.sz ∧ fre (ps.ts.getD i 0) = true) {A : Option Addr} {c : Nat} {d : List UInt8} (hB : BytesAt W A d.length d) (hA : A = none → c = 0) (hd : d.length ≤ 505) :
    Calls Tryd.prog 10 #[.pointer (some ⟨g, 0, none⟩), .slice A d.length c] W fun e w' => ∃ f, 2 ≤ f ∧ f < st.sz ∧ fre (ps.ts.getD f 0) = true ∧ e = .returned (.tuple #[.int .i64 (f : Nat), .int .i64 0]) ∧ Rn W0 w' { st with log := st.log ++ [(f, sealL 2 d)] } { ps with ts := ps.ts.set f 2 } gd g gs := by
  have hE' := h.env hE
  obtain ⟨a, b, c', T, dT, e⟩ := h
  refine (New_ok hE' e ho hB hA hd hx hn (by rw [burn_free hl]; exact ho)).mono fun e w' ⟨f, h2, hf, hff, he, hb⟩ => ⟨f, h2, hf, hff, he, ?_⟩
  have := Rn.to a b c' dT hb
  unfold wrS at this
  rwa [burn_free hl] at this
/-- A Flip without a limit. -/
theorem Rn.flip (hE : Env W0) (h : Rn W0 W st ps gd g gs) (ho : st.out = false) (hl : st.left = 0) (hz : 2 ≤ st.sz) (hn : st.log.length ≤ 90000) (r : Nat) (hr : r ≤ 65536) (hm : r = 0 ∨ mayB ps.ts (r : Int) st.sz = true) (hq : ps.seq < 1000000000) :
    Calls Tryd.prog 15 #[.pointer (some ⟨g, 0, none⟩), .int .i64 (r : Nat)] W fun e w' => e = .returned (.int .i64 0) ∧ Rn W0 w' { st with log := st.log ++ [((ps.seq + 1) % 2, rootS (ps.seq + 1, r))], n := st.log.length + 1 } ⟨flipL ps.ts, ps.seq + 1, r⟩ gd g gs := by
  have hE' := h.env hE
  have hf := setl_free ho hz hl (ps.seq + 1) r
  have hs : setlS st (ps.seq + 1) r = { st with log := st.log ++ [((ps.seq + 1) % 2, rootS (ps.seq + 1, r))], n := st.log.length + 1 } := by
    have hz' := setlS_sz st (ps.seq + 1) r
    rcases setl_cases ho hz (ps.seq + 1) r with ⟨-, h2, h3, h4⟩ | ⟨h1, -⟩ | ⟨h1, -⟩
    · have hl' := hf.2
      generalize setlS st (ps.seq + 1) r = s2 at *
      cases s2; cases st
      simp only at *
      subst hz' h2 h3 h4 hl' ho hl
      simp
    · rw [hf.1] at h1; cases h1
    · rw [hf.1] at h1; cases h1
  have := h.call (φ := fun e => e = .returned (.int .i64 0)) (fun T hB hT => Flip_ok hE' hB ho r hr hm hn (no_four hE hT) hq hf.1)
  rwa [hs] at this
end
end Go.Proofs.YtfjiceoagenfnaaDoor
