/- Layer pager, plain: what the law PagerActs keeps: which pages are in use, which are to go, what is sure. -/
import Derived.Test.YtfjiceoagenfnaaDoorPPln
namespace Go.Proofs.YtfjiceoagenfnaaDoor

abbrev Pge := Nat × List UInt8
/-- What a root stands for. -/
structure SS where
  seq : Nat
  root : Nat
  pages : List Pge
def ats (l : List Pge) : List Nat := l.map Prod.fst
def Has (n : Nat) (log : List Wr) (l : List Pge) : Prop := ∀ x ∈ l, 2 ≤ x.1 ∧ x.1 < n ∧ x.2.length ≤ 505 ∧ nowL log x.1 = sealL 2 x.2
/-- Which state a page has. -/
def codeIs (now sure part : List Nat) (i c : Nat) : Prop := (i ∈ now → i ∈ sure → c = 3) ∧ (i ∈ now → i ∉ sure → c = 2) ∧ (i ∉ now → i ∈ part → c = 4) ∧ (i ∉ now → i ∉ part → c ≤ 1)
structure Inv (st : DS) (ps : PS) (s : SS) (now part : List Pge) : Prop where
  ok : st.n ≤ st.log.length
  out : st.out = false
  len : ps.ts.length = st.sz
  sz : 4 ≤ st.sz ∧ st.sz ≤ 65536
  seq : ps.seq = s.seq
  root : ps.root = s.root
  rt : RootIs st.sz st.sure (s.seq, s.root)
  un : ∀ w ∈ st.un, 2 ≤ w.1 ∧ w.1 ∉ ats s.pages
  hnow : Has st.sz st.log now
  sp : Has st.sz st.sure s.pages
  nd : (ats now ++ ats part).Nodup
  nds : (ats s.pages).Nodup
  sub : ∀ i ∈ ats s.pages, i ∈ ats now ∨ i ∈ ats part
  pp : ∀ i ∈ ats part, i ∈ ats s.pages
  tab : ∀ i, 2 ≤ i → i < st.sz → codeIs (ats now) (ats s.pages) (ats part) i (ps.ts.getD i 0)
theorem get_set {l : List Nat} {i : Nat} (h : i < l.length) (c : Nat) : (l.set i c).getD i 0 = c := by
  rw [List.getD_eq_getElem?_getD, List.getElem?_set, if_pos rfl, if_pos h]; rfl
theorem mem_ats {l : List Pge} {x : Pge} (h : x ∈ l) : x.1 ∈ ats l := List.mem_map.2 ⟨x, h, rfl⟩
theorem lastW_none {l : List Wr} {i : Nat} (h : ∀ w ∈ l, w.1 ≠ i) : lastW l i = none := by
  cases e : lastW l i with
  | none => rfl
  | some s => exact absurd rfl (h _ (lastW_mem l e))
theorem nowL_keep {l m : List Wr} {i : Nat} (h : ∀ w ∈ m, w.1 ≠ i) : nowL (l ++ m) i = nowL l i := by
  rw [nowL_append, lastW_none h]; rfl
theorem Has.keep {n : Nat} {l m : List Wr} {p : List Pge} (h : Has n l p) (hm : ∀ w ∈ m, w.1 ∉ ats p) : Has n (l ++ m) p := fun x hx => by
  obtain ⟨a, b, c, d⟩ := h x hx
  exact ⟨a, b, c, (nowL_keep fun w hw e => hm w hw (e ▸ mem_ats hx)).trans d⟩
theorem sure_un (st : DS) : st.sure ++ st.un = st.log := List.take_append_drop ..
theorem keepM_sub (m : Nat) : ∀ (l : List Wr) (k : Nat) {w : Wr}, w ∈ keepM m k l → w ∈ l
  | [], _, _, h => by cases h
  | x :: l, k, w, h => by
    rw [keepM] at h
    split at h
    · rcases List.mem_cons.1 h with rfl | h
      · exact List.mem_cons_self ..
      · exact List.mem_cons_of_mem _ (keepM_sub m l _ h)
    · exact List.mem_cons_of_mem _ (keepM_sub m l _ h)
/-- A disk that has what a root stands for, whatever goes. -/
def Saved (n : Nat) (log : List Wr) (s : SS) : Prop := RootIs n log (s.seq, s.root) ∧ Has n log s.pages ∧ (ats s.pages).Nodup
theorem Saved.add {n : Nat} {l m : List Wr} {s : SS} (h : Saved n l s) (hm : ∀ w ∈ m, 2 ≤ w.1 ∧ w.1 ∉ ats s.pages) : Saved n (l ++ m) s :=
  ⟨h.1.same (nowL_keep fun w hw e => by have := (hm w hw).1; omega) (nowL_keep fun w hw e => by have := (hm w hw).1; omega), h.2.1.keep fun w hw => (hm w hw).2, h.2.2⟩
section
variable {st : DS} {ps : PS} {s : SS} {now part : List Pge} (h : Inv st ps s now part)
include h
theorem Inv.saved : Saved st.sz st.sure s := ⟨h.rt, h.sp, h.nds⟩
theorem Inv.savedL : Saved st.sz st.log s := by
  have := h.saved.add h.un
  rwa [sure_un] at this
theorem Inv.crash (m : Nat) : Saved st.sz (crashS st m).log s := h.saved.add fun w hw => h.un w (keepM_sub m _ _ hw)
theorem Inv.same {st' : DS} (h1 : st'.log = st.log) (h2 : st'.n = st.n) (h3 : st'.sz = st.sz) (h4 : st'.out = false) : Inv st' ps s now part := by
  have e1 : st'.sure = st.sure := by unfold DS.sure; rw [h1, h2]
  have e2 : st'.un = st.un := by unfold DS.un; rw [h1, h2]
  exact { ok := by rw [h1, h2]; exact h.ok, out := h4, len := h.len.trans h3.symm, sz := by rw [h3]; exact h.sz, seq := h.seq, root := h.root, rt := by rw [h3, e1]; exact h.rt, un := by rw [e2]; exact h.un, hnow := by rw [h3, h1]; exact h.hnow, sp := by rw [h3, e1]; exact h.sp, nd := h.nd, nds := h.nds, sub := h.sub, pp := h.pp, tab := by rw [h3]; exact h.tab }
theorem Inv.fresh {i : Nat} (h2 : 2 ≤ i) (hi : i < st.sz) (hf : fre (ps.ts.getD i 0) = true) : i ∉ ats now ∧ i ∉ ats part ∧ i ∉ ats s.pages := by
  have hc := of_decide_eq_true hf
  obtain ⟨a, b, c, d⟩ := h.tab i h2 hi
  have k1 : i ∉ ats now := fun e => by
    by_cases e2 : i ∈ ats s.pages
    · have := a e e2; omega
    · have := b e e2; omega
  have k2 : i ∉ ats part := fun e => by have := c k1 e; omega
  exact ⟨k1, k2, fun e => (h.sub i e).elim k1 k2⟩
theorem Inv.new {i : Nat} {d : List UInt8} (h2 : 2 ≤ i) (hi : i < st.sz) (hf : fre (ps.ts.getD i 0) = true) (hd : d.length ≤ 505) {st' : DS} (k1 : st'.log = st.log ++ [(i, sealL 2 d)]) (k2 : st'.n = st.n) (k3 : st'.sz = st.sz) (k4 : st'.out = false) :
    Inv st' { ps with ts := ps.ts.set i 2 } s (now ++ [(i, d)]) part := by
  obtain ⟨f1, f2, f3⟩ := h.fresh h2 hi hf
  have e1 : st'.sure = st.sure := by unfold DS.sure; rw [k1, k2, List.take_append_of_le_length h.ok]
  have e2 : st'.un = st.un ++ [(i, sealL 2 d)] := by unfold DS.un; rw [k1, k2, List.drop_append_of_le_length h.ok]
  have ea : ats (now ++ [(i, d)]) = ats now ++ [i] := by simp [ats]
  refine { ok := by rw [k1, k2, List.length_append]; have := h.ok; omega, out := k4, len := by show (ps.ts.set i 2).length = _; rw [List.length_set, k3]; exact h.len, sz := by rw [k3]; exact h.sz, seq := h.seq, root := h.root, rt := by rw [k3, e1]; exact h.rt, un := ?_, hnow := ?_, sp := by rw [k3, e1]; exact h.sp, nd := ?_, nds := h.nds, sub := ?_, pp := h.pp, tab := ?_ }
  · rw [e2]
    intro w hw
    rcases List.mem_append.1 hw with hw | hw
    · exact h.un w hw
    · rw [List.mem_singleton.1 hw]; exact ⟨h2, f3⟩
  · rw [k3, k1]
    intro x hx
    rcases List.mem_append.1 hx with hx | hx
    · exact (h.hnow.keep (m := [(i, sealL 2 d)]) (fun w hw => by rw [List.mem_singleton.1 hw]; exact f1)) x hx
    · rw [List.mem_singleton.1 hx]
      exact ⟨h2, hi, hd, by rw [nowL_push]; exact if_pos rfl⟩
  · rw [ea]
    have := h.nd
    rw [List.nodup_append] at this ⊢
    obtain ⟨a, b, c⟩ := this
    refine ⟨?_, b, ?_⟩
    · rw [List.nodup_append]
      exact ⟨a, by simp, fun x hx y hy => by rw [List.mem_singleton.1 hy]; exact fun e => f1 (e ▸ hx)⟩
    · intro x hx y hy
      rcases List.mem_append.1 hx with hx | hx
      · exact c x hx y hy
      · rw [List.mem_singleton.1 hx]; exact fun e => f2 (e ▸ hy)
  · intro j hj
    rw [ea]
    exact (h.sub j hj).imp (fun e => List.mem_append_left _ e) id
  · intro j hj2 hj
    rw [k3] at hj
    show codeIs (ats (now ++ [(i, d)])) _ _ j ((ps.ts.set i 2).getD j 0)
    rw [ea, List.getD_eq_getElem?_getD, List.getElem?_set]
    by_cases e : i = j
    · subst e
      rw [if_pos rfl, if_pos (by rw [h.len]; exact hi)]
      refine ⟨fun _ e => absurd e f3, fun _ _ => rfl, fun e => absurd (List.mem_append_right _ (List.mem_singleton.2 rfl)) e, fun e => absurd (List.mem_append_right _ (List.mem_singleton.2 rfl)) e⟩
    · rw [if_neg e, ← List.getD_eq_getElem?_getD]
      have hm : j ∈ ats now ++ [i] ↔ j ∈ ats now := by
        rw [List.mem_append, List.mem_singleton]
        exact ⟨fun h => h.elim id (fun e2 => absurd e2.symm e), .inl⟩
      unfold codeIs
      rw [hm]
      exact h.tab j hj2 hj
theorem Inv.code {k : Nat} (hk : k < now.length) : 2 ≤ now[k].1 ∧ now[k].1 < st.sz ∧ (now[k].1 ∈ ats s.pages → ps.ts.getD now[k].1 0 = 3) ∧ (now[k].1 ∉ ats s.pages → ps.ts.getD now[k].1 0 = 2) := by
  have hm := List.getElem_mem hk
  obtain ⟨a, b, -, -⟩ := h.hnow _ hm
  obtain ⟨c, d, -, -⟩ := h.tab _ a b
  exact ⟨a, b, fun e => c (mem_ats hm) e, fun e => d (mem_ats hm) e⟩
theorem Inv.use {k : Nat} (hk : k < now.length) : ps.ts.set now[k].1 (useC (ps.ts.getD now[k].1 0)) = ps.ts := by
  obtain ⟨a, b, c, d⟩ := h.code hk
  have e : useC (ps.ts.getD now[k].1 0) = ps.ts.getD now[k].1 0 := by
    by_cases e : now[k].1 ∈ ats s.pages
    · rw [c e]; rfl
    · rw [d e]; rfl
  rw [e]
  refine List.ext_getElem? fun j => ?_
  rw [List.getElem?_set]
  split
  · rename_i e; subst e
    rw [if_pos (by rw [h.len]; exact b), List.getD_eq_getElem?_getD, List.getElem?_eq_getElem (by rw [h.len]; exact b)]
    rfl
  · rfl
theorem Inv.free {k : Nat} (hk : k < now.length) {part' : List Pge} (hp : (now[k].1 ∈ ats s.pages → part' = part ++ [now[k]]) ∧ (now[k].1 ∉ ats s.pages → part' = part)) :
    Inv st { ps with ts := ps.ts.set now[k].1 (relC (ps.ts.getD now[k].1 0)) } s (now.eraseIdx k) part' := by
  obtain ⟨a, b, c, d⟩ := h.code hk
  have hnd := h.nd
  rw [List.nodup_append] at hnd
  obtain ⟨n1, n2, n3⟩ := hnd
  have hka : (ats now)[k]? = some now[k].1 := by unfold ats; rw [List.getElem?_map, List.getElem?_eq_getElem hk]; rfl
  have hsub : (ats (now.eraseIdx k)).Sublist (ats now) := (List.eraseIdx_sublist now k).map _
  have hmem : ∀ j, j ∈ ats (now.eraseIdx k) ↔ j ∈ ats now ∧ j ≠ now[k].1 := fun j => by
    constructor
    · intro hj
      refine ⟨hsub.subset hj, fun e => ?_⟩
      obtain ⟨x, hx, ex⟩ := List.mem_map.1 hj
      obtain ⟨i, hi, hxi⟩ := List.mem_eraseIdx_iff_getElem?.1 hx
      have h1 : (ats now)[i]? = some now[k].1 := by unfold ats; rw [List.getElem?_map, hxi]; show some x.1 = _; rw [ex, e]
      have hil : i < (ats now).length := (List.getElem?_eq_some_iff.1 h1).1
      exact hi ((List.getElem?_inj hil n1).1 (h1.trans hka.symm))
    · rintro ⟨hj, hne⟩
      obtain ⟨x, hx, rfl⟩ := List.mem_map.1 hj
      obtain ⟨i, hl, rfl⟩ := List.getElem_of_mem hx
      exact List.mem_map.2 ⟨now[i], List.mem_eraseIdx_iff_getElem?.2 ⟨i, fun e => hne (by subst e; rfl), List.getElem?_eq_getElem hl⟩, rfl⟩
  have hnp : now[k].1 ∉ ats part := fun e => n3 _ (mem_ats (List.getElem_mem hk)) _ e rfl
  have hpm : ∀ j, j ∈ ats part' ↔ j ∈ ats part ∨ (j = now[k].1 ∧ now[k].1 ∈ ats s.pages) := fun j => by
    by_cases e : now[k].1 ∈ ats s.pages
    · rw [hp.1 e, show ats (part ++ [now[k]]) = ats part ++ [now[k].1] by simp [ats], List.mem_append, List.mem_singleton]
      exact ⟨fun h => h.imp id (fun h => ⟨h, e⟩), fun h => h.imp id (fun h => h.1)⟩
    · rw [hp.2 e]
      exact ⟨.inl, fun h => h.elim id (fun h => absurd h.2 e)⟩
  refine { ok := h.ok, out := h.out, len := by show (ps.ts.set _ _).length = _; rw [List.length_set]; exact h.len, sz := h.sz, seq := h.seq, root := h.root, rt := h.rt, un := h.un, hnow := fun x hx => h.hnow x (List.mem_of_mem_eraseIdx hx), sp := h.sp, nd := ?_, nds := h.nds, sub := ?_, pp := ?_, tab := ?_ }
  · rw [List.nodup_append]
    refine ⟨n1.sublist hsub, ?_, fun x hx y hy e => ?_⟩
    · by_cases e : now[k].1 ∈ ats s.pages
      · rw [hp.1 e, show ats (part ++ [now[k]]) = ats part ++ [now[k].1] by simp [ats], List.nodup_append]
        exact ⟨n2, by simp, fun x hx y hy => by rw [List.mem_singleton.1 hy]; exact fun e => hnp (e ▸ hx)⟩
      · rw [hp.2 e]; exact n2
    · subst e
      obtain ⟨h1, h2⟩ := (hmem x).1 hx
      rcases (hpm x).1 hy with h3 | h3
      · exact n3 x h1 x h3 rfl
      · exact h2 h3.1
  · intro j hj
    rw [hmem, hpm]
    rcases h.sub j hj with h1 | h1
    · by_cases e : j = now[k].1
      · exact .inr (.inr ⟨e, e ▸ hj⟩)
      · exact .inl ⟨h1, e⟩
    · exact .inr (.inl h1)
  · intro j hj
    rcases (hpm j).1 hj with h1 | h1
    · exact h.pp j h1
    · rw [h1.1]; exact h1.2
  · intro j hj2 hj
    show codeIs _ _ _ j ((ps.ts.set now[k].1 _).getD j 0)
    rw [List.getD_eq_getElem?_getD, List.getElem?_set]
    unfold codeIs
    rw [hmem, hpm]
    by_cases e : now[k].1 = j
    · rw [if_pos e, if_pos (by rw [h.len, e]; exact hj)]
      show (_ ∧ _ → _ → relC _ = 3) ∧ _
      refine ⟨fun e2 => absurd e.symm e2.2, fun e2 => absurd e.symm e2.2, fun _ e2 => ?_, fun _ e2 => ?_⟩
      · have e3 : now[k].1 ∈ ats s.pages := e2.elim (fun e4 => absurd (e ▸ e4) hnp) (fun e4 => e4.2)
        rw [show (some (relC (ps.ts.getD now[k].1 0))).getD 0 = relC (ps.ts.getD now[k].1 0) from rfl, c e3]; rfl
      · have e3 : now[k].1 ∉ ats s.pages := fun e4 => e2 (.inr ⟨e.symm, e4⟩)
        rw [show (some (relC (ps.ts.getD now[k].1 0))).getD 0 = relC (ps.ts.getD now[k].1 0) from rfl, d e3]; decide
    · rw [if_neg e, ← List.getD_eq_getElem?_getD]
      have e' : j ≠ now[k].1 := fun e2 => e e2.symm
      obtain ⟨t1, t2, t3, t4⟩ := h.tab j hj2 hj
      refine ⟨fun x y => t1 x.1 y, fun x y => t2 x.1 y, fun x y => t3 (fun z => x ⟨z, e'⟩) (y.elim id (fun y => absurd y.1 e')), fun x y => t4 (fun z => x ⟨z, e'⟩) (fun z => y (.inl z))⟩
/-- How the room goes when a page is freed. -/
theorem Inv.room {k : Nat} (hk : k < now.length) : roomOf (ps.ts.set now[k].1 (relC (ps.ts.getD now[k].1 0))) = if now[k].1 ∈ ats s.pages then roomOf ps.ts else roomOf ps.ts + 1 := by
  obtain ⟨a, b, c, d⟩ := h.code hk
  have hr := roomOf_set (ts := ps.ts) a (by rw [h.len]; exact b) (relC (ps.ts.getD now[k].1 0))
  by_cases e : now[k].1 ∈ ats s.pages
  · rw [if_pos e]
    rw [c e] at hr ⊢
    simpa [fre, relC] using hr
  · rw [if_neg e]
    rw [d e] at hr ⊢
    simpa [fre, relC] using hr
/-- Behind a Flip. -/
theorem Inv.flip {r : Nat} (hr : r = 0 ∨ r ∈ ats now) (hq : s.seq < 1000000001) {st' : DS} (k1 : st'.log = st.log ++ [((s.seq + 1) % 2, rootS (s.seq + 1, r))]) (k2 : st'.n = st'.log.length) (k3 : st'.sz = st.sz) (k4 : st'.out = false) :
    Inv st' ⟨flipL ps.ts, s.seq + 1, r⟩ ⟨s.seq + 1, r, now⟩ now [] := by
  have e1 : st'.sure = st'.log := by unfold DS.sure; rw [k2, List.take_length]
  have e2 : st'.un = [] := by unfold DS.un; rw [k2, List.drop_length]
  have hfit : fitsF st.sz (s.seq + 1, r) = true := by
    unfold fitsF
    rw [decide_eq_true_iff]
    rcases hr with hr | hr
    · exact .inl hr
    · obtain ⟨x, hx, e⟩ := List.mem_map.1 hr
      obtain ⟨a, b, -, -⟩ := h.hnow x hx
      exact .inr ⟨by show 2 ≤ r; omega, by show r < _; omega⟩
  have hsm := h.savedL.1.flip hfit (show s.seq + 1 < _ by omega) h.sz.2
  have hh : Has st.sz st'.log now := by
    rw [k1]
    refine h.hnow.keep fun w hw e => ?_
    rw [List.mem_singleton.1 hw] at e
    obtain ⟨x, hx, e3⟩ := List.mem_map.1 e
    have := (h.hnow x hx).1
    have e4 : x.1 = (s.seq + 1) % 2 := e3
    omega
  have hnd := h.nd
  rw [List.nodup_append] at hnd
  refine { ok := by rw [k2]; exact Nat.le_refl _, out := k4, len := by rw [flipL_len, k3]; exact h.len, sz := by rw [k3]; exact h.sz, seq := rfl, root := rfl, rt := by rw [k3, e1, k1]; exact hsm, un := fun w hw => (by rw [e2] at hw; cases hw), hnow := by rw [k3]; exact hh, sp := by rw [k3, e1]; exact hh, nd := by simpa [ats] using hnd.1, nds := hnd.1, sub := fun i hi => .inl hi, pp := fun i hi => (by cases hi), tab := fun i h2 hi => ?_ }
  rw [k3] at hi
  show codeIs (ats now) (ats now) (ats []) i ((flipL ps.ts).getD i 0)
  rw [flipL_get, if_pos h2]
  obtain ⟨t1, t2, t3, t4⟩ := h.tab i h2 hi
  refine ⟨fun e _ => ?_, fun e e2 => absurd e e2, fun _ e => (by cases e), fun e _ => ?_⟩
  · by_cases e2 : i ∈ ats s.pages
    · rw [t1 e e2]; rfl
    · rw [t2 e e2]; rfl
  · have hc : ps.ts.getD i 0 = 4 ∨ ps.ts.getD i 0 ≤ 1 := by
      by_cases e2 : i ∈ ats part
      · exact .inl (t3 e e2)
      · exact .inr (t4 e e2)
    unfold flC
    rw [if_neg (by omega)]; omega
end
/-- Pages used again, of a disk that was opened. -/
def usedL (n : Nat) (l : List Pge) : List Nat := l.foldl (fun ts x => ts.set x.1 3) (List.replicate n 0)
theorem usedL_push (n : Nat) (l : List Pge) (x : Pge) : usedL n (l ++ [x]) = (usedL n l).set x.1 3 := by unfold usedL; rw [List.foldl_append]; rfl
theorem used_len (l : List Pge) : ∀ ts : List Nat, (l.foldl (fun ts x => ts.set x.1 3) ts).length = ts.length := by
  induction l with
  | nil => intro ts; rfl
  | cons x l ih => intro ts; rw [List.foldl_cons, ih, List.length_set]
theorem usedL_len (n : Nat) (l : List Pge) : (usedL n l).length = n := by unfold usedL; rw [used_len, List.length_replicate]
theorem used_get (l : List Pge) : ∀ (ts : List Nat) (i : Nat), i < ts.length → (l.foldl (fun ts x => ts.set x.1 3) ts).getD i 0 = if i ∈ ats l then 3 else ts.getD i 0 := by
  induction l with
  | nil => intro ts i _; rfl
  | cons x l ih =>
    intro ts i hi
    rw [List.foldl_cons, ih _ _ (by rw [List.length_set]; exact hi)]
    show (if i ∈ ats l then 3 else _) = if i ∈ x.1 :: ats l then 3 else _
    by_cases e : i ∈ ats l
    · rw [if_pos e, if_pos (List.mem_cons_of_mem _ e)]
    · rw [if_neg e, List.getD_eq_getElem?_getD, List.getElem?_set]
      by_cases e2 : x.1 = i
      · rw [if_pos e2, if_pos (by omega), if_pos (by rw [e2]; exact List.mem_cons_self ..)]; rfl
      · rw [if_neg e2, if_neg (fun e3 => (List.mem_cons.1 e3).elim (fun e4 => e2 e4.symm) e), ← List.getD_eq_getElem?_getD]
theorem usedL_get (n : Nat) (l : List Pge) {i : Nat} (hi : i < n) : (usedL n l).getD i 0 = if i ∈ ats l then 3 else 0 := by
  unfold usedL
  rw [used_get _ _ _ (by rw [List.length_replicate]; exact hi), List.getD_eq_getElem?_getD, List.getElem?_replicate, if_pos hi]
  rfl
theorem used_room : ∀ (l : List Pge) (ts : List Nat), (∀ x ∈ l, 2 ≤ x.1 ∧ x.1 < ts.length ∧ ts.getD x.1 0 = 0) → (ats l).Nodup → roomOf (l.foldl (fun ts x => ts.set x.1 3) ts) + l.length = roomOf ts
  | [], _, _, _ => rfl
  | x :: l, ts, h, hn => by
    obtain ⟨a, b, c⟩ := h x (List.mem_cons_self ..)
    have hn' : (x.1 :: ats l).Nodup := hn
    rw [List.nodup_cons] at hn'
    have := used_room l (ts.set x.1 3) (fun y hy => by
      obtain ⟨d, e, f⟩ := h y (List.mem_cons_of_mem _ hy)
      refine ⟨d, by rw [List.length_set]; exact e, ?_⟩
      rw [List.getD_eq_getElem?_getD, List.getElem?_set, if_neg (fun e2 => hn'.1 (by rw [e2]; exact mem_ats hy)), ← List.getD_eq_getElem?_getD]
      exact f) hn'.2
    have hs := roomOf_set (ts := ts) a b 3
    rw [c] at hs
    simp [fre] at hs
    rw [List.foldl_cons, List.length_cons]
    omega
theorem usedL_room (n : Nat) (l : List Pge) (h : ∀ x ∈ l, 2 ≤ x.1 ∧ x.1 < n) (hn : (ats l).Nodup) : roomOf (usedL n l) + l.length = n - 2 := by
  have := used_room l (List.replicate n 0) (fun x hx => by
    obtain ⟨a, b⟩ := h x hx
    refine ⟨a, by rw [List.length_replicate]; exact b, ?_⟩
    rw [List.getD_eq_getElem?_getD, List.getElem?_replicate, if_pos b]; rfl) hn
  rw [roomOf_new] at this
  exact this
theorem Saved.inv {st : DS} {s : SS} (h : Saved st.sz st.log s) (hn : st.n = st.log.length) (ho : st.out = false) (hz : 4 ≤ st.sz ∧ st.sz ≤ 65536) : Inv st ⟨usedL st.sz s.pages, s.seq, s.root⟩ s s.pages [] := by
  have e1 : st.sure = st.log := by unfold DS.sure; rw [hn, List.take_length]
  have e2 : st.un = [] := by unfold DS.un; rw [hn, List.drop_length]
  refine { ok := by rw [hn]; exact Nat.le_refl _, out := ho, len := usedL_len _ _, sz := hz, seq := rfl, root := rfl, rt := by rw [e1]; exact h.1, un := fun w hw => (by rw [e2] at hw; cases hw), hnow := h.2.1, sp := by rw [e1]; exact h.2.1, nd := by simpa [ats] using h.2.2, nds := h.2.2, sub := fun i hi => .inl hi, pp := fun i hi => (by cases hi), tab := fun i h2 hi => ?_ }
  show codeIs _ _ _ i ((usedL st.sz s.pages).getD i 0)
  rw [usedL_get _ _ hi]
  refine ⟨fun e _ => if_pos e, fun e e2 => absurd e e2, fun _ e => (by cases e), fun e _ => by rw [if_neg e]; decide⟩
end Go.Proofs.YtfjiceoagenfnaaDoor
