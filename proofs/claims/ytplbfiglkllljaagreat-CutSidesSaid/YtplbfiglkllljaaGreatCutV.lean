/- Both parts of a parcel are together what it was; the two ways round between two corners. -/
import Derived.Test.YtplbfiglkllljaaGreatCutL
namespace Go.Proofs.YtplbfiglkllljaaGreat
open Go.RowKit

theorem posL_app {α : Type} [DecidableEq α] : ∀ {l1 : List α} {a : α} (_ : a ∉ l1) (l2 : List α), posL (l1 ++ a :: l2) a = l1.length
  | [], a, _, l2 => by simp [posL]
  | x :: l1, a, h, l2 => by
    have hx : ¬ x = a := fun e => h (by rw [e]; exact List.mem_cons_self)
    rw [List.cons_append, posL, if_neg hx, posL_app (fun hh => h (List.mem_cons_of_mem _ hh)) l2, List.length_cons]
theorem posL_split {α : Type} [DecidableEq α] : ∀ {l : List α} {a : α}, a ∈ l → ∃ l1 l2, l = l1 ++ a :: l2 ∧ a ∉ l1
  | [], a, h => by cases h
  | x :: l, a, h => by
    by_cases e : x = a
    · exact ⟨[], l, by rw [e]; rfl, by simp⟩
    · obtain ⟨l1, l2, h1, h2⟩ := posL_split (l := l) (a := a) (by rcases List.mem_cons.1 h with h | h; exact absurd h.symm e; exact h)
      refine ⟨x :: l1, l2, by rw [h1]; rfl, fun hh => ?_⟩
      rcases List.mem_cons.1 hh with hh | hh
      · exact e hh.symm
      · exact h2 hh
theorem behind_app {l1 l2 : List (Int × Int)} {a : Int × Int} (h : a ∉ l1) : behind (l1 ++ a :: l2) a = l2 ++ l1 := by
  unfold behind
  rw [posL_app h, List.take_left' rfl, show l1.length + 1 = (l1 ++ [a]).length by simp, show l1 ++ a :: l2 = (l1 ++ [a]) ++ l2 by simp, List.drop_left' rfl]
theorem arc_app {r m1 m2 : List (Int × Int)} {a b : Int × Int} (h : behind r a = m1 ++ b :: m2) (hb : b ∉ m1) : arc r a b = m1 := by
  unfold arc
  rw [h, posL_app hb, List.take_left' rfl]
/-- A ring, begun at one corner, is that corner, the way to the other, the other, and the way back. -/
theorem arcs_split {r : List (Int × Int)} {a b : Int × Int} (hn : r.Nodup) (ha : a ∈ r) (hb : b ∈ r) (hne : a ≠ b) : posL r a < r.length ∧ r.drop (posL r a) ++ r.take (posL r a) = a :: arc r a b ++ b :: arc r b a := by
  refine ⟨posL_lt ha, ?_⟩
  obtain ⟨U, V, rfl, hU⟩ := posL_split ha
  rw [posL_app hU, List.take_left' rfl, List.drop_left' rfl]
  obtain ⟨nU, nV, nUV⟩ := List.nodup_append.1 hn
  obtain ⟨nV1, nV2⟩ := List.nodup_cons.1 nV
  have hbb := behind_app (l2 := V) hU
  have hb' : b ∈ U ∨ b ∈ V := by
    rcases List.mem_append.1 hb with h | h
    · exact .inl h
    · rcases List.mem_cons.1 h with h | h
      · exact absurd h.symm hne
      · exact .inr h
  by_cases hV : b ∈ V
  · obtain ⟨V1, V2, rfl, hV1⟩ := posL_split hV
    have h1 : arc (U ++ a :: (V1 ++ b :: V2)) a b = V1 := arc_app (m2 := V2 ++ U) (by rw [hbb]; simp) hV1
    have hbU : b ∉ U := fun h => nUV b h b (List.mem_cons_of_mem _ hV) rfl
    have h2 : behind (U ++ a :: (V1 ++ b :: V2)) b = (V2 ++ U) ++ a :: V1 := by
      have e : U ++ a :: (V1 ++ b :: V2) = (U ++ a :: V1) ++ b :: V2 := by simp
      rw [e, behind_app (fun h => by
        rcases List.mem_append.1 h with h | h
        · exact hbU h
        · rcases List.mem_cons.1 h with h | h
          · exact hne h.symm
          · exact hV1 h)]
      simp
    have h3 : arc (U ++ a :: (V1 ++ b :: V2)) b a = V2 ++ U := arc_app h2 (fun h => by
      rcases List.mem_append.1 h with h | h
      · exact nV1 (List.mem_append_right _ (List.mem_cons_of_mem _ h))
      · exact hU h)
    rw [h1, h3]
    simp
  · have hbU : b ∈ U := hb'.resolve_right hV
    obtain ⟨U1, U2, rfl, hU1⟩ := posL_split hbU
    have h1 : arc (U1 ++ b :: U2 ++ a :: V) a b = V ++ U1 := arc_app (m2 := U2) (by rw [hbb]; simp) (fun h => by
      rcases List.mem_append.1 h with h | h
      · exact hV h
      · exact hU1 h)
    have h2 : behind (U1 ++ b :: U2 ++ a :: V) b = U2 ++ a :: (V ++ U1) := by
      have e : U1 ++ b :: U2 ++ a :: V = U1 ++ b :: (U2 ++ a :: V) := by simp
      rw [e, behind_app hU1]
      simp
    have h3 : arc (U1 ++ b :: U2 ++ a :: V) b a = U2 := arc_app h2 (fun h => hU (List.mem_append_right _ (List.mem_cons_of_mem _ h)))
    rw [h1, h3]
    simp
theorem sound_nodup {r : List (Int × Int)} (hs : Sound r) : r.Nodup := List.pairwise_iff_getElem.2 fun i j hi hj hij e => by
  have := nx_inj hs hi hj (by rw [nx_lt hi, nx_lt hj, e])
  omega
theorem area_rot {r : List (Int × Int)} {k : Nat} (hk : k < r.length) : area (r.drop k ++ r.take k) = area r := (begins k (by rw [List.length_append, List.length_drop, List.length_take]; omega) (nx_dt hk)).1
theorem area_nmL {r : List (Int × Int)} (h : chE r = 0) : area (nmL r) = area r := by
  have h3 := (chE_zero.1 h).2.1
  rw [nmL_eq h]
  exact (begins (leastI r r.length) (rotL_length _ _) (fun i => nx_rotL _ _ _ (by omega))).1
theorem last_app {path : List (Int × Int)} (h : 1 ≤ path.length) : path = path.dropLast ++ [pL path] := by
  have hne : path ≠ [] := fun e => by rw [e] at h; simp at h
  have e : pL path = path.getLast hne := by
    unfold pL
    rw [nx_lt (by omega), List.getLast_eq_getElem]
  rw [e, List.dropLast_concat_getLast hne]
/-- The area of a path and a way back. -/
theorem area_closed {path A : List (Int × Int)} (h : 1 ≤ path.length) : area (path ++ A) = wsum (chn path) + wsum (chn (pL path :: (A ++ [pF path]))) := by
  have e0 : nx (path ++ A) 0 = pF path := by
    unfold pF
    rw [nx_lt (by rw [List.length_append]; omega), List.getElem_append_left (by omega), nx_lt (by omega)]
  rw [area_edg, edg_chn, e0, List.append_assoc, ← wsum_append]
  congr 1
  have e1 := last_app h
  have e2 : path ++ (A ++ [pF path]) = path.dropLast ++ pL path :: (A ++ [pF path]) := by
    calc path ++ (A ++ [pF path]) = (path.dropLast ++ [pL path]) ++ (A ++ [pF path]) := by rw [← e1]
      _ = _ := by simp
  rw [e2, chn_append, ← e1]
/-- What both sides of a path come to. -/
theorem area_sides {r path : List (Int × Int)} (hn : r.Nodup) (hF : pF path ∈ r) (hL : pL path ∈ r) (hne : pF path ≠ pL path) (h : 1 ≤ path.length) : area (closedL path r) + area (closedL path.reverse r) = area r := by
  obtain ⟨r1, r2⟩ := rev_pF h
  unfold closedL
  rw [r1, r2, area_closed h, area_closed (by rw [List.length_reverse]; exact h), r1, r2, wsum_rev]
  obtain ⟨hj, hs⟩ := arcs_split hn hF hL hne
  rw [← area_rot hj, hs]
  have e : area (pF path :: arc r (pF path) (pL path) ++ pL path :: arc r (pL path) (pF path)) = wsum (chn (pF path :: (arc r (pF path) (pL path) ++ [pL path]))) + wsum (chn (pL path :: (arc r (pL path) (pF path) ++ [pF path]))) := by
    rw [area_edg, edg_chn]
    have e0 : nx (pF path :: arc r (pF path) (pL path) ++ pL path :: arc r (pL path) (pF path)) 0 = pF path := by rw [nx_lt (by simp)]; rfl
    rw [e0]
    have e1 : (pF path :: arc r (pF path) (pL path) ++ pL path :: arc r (pL path) (pF path)) ++ [pF path] = (pF path :: arc r (pF path) (pL path)) ++ pL path :: (arc r (pL path) (pF path) ++ [pF path]) := by simp
    rw [e1, chn_append, wsum_append]
    rfl
  rw [e]
  omega
section
variable {o : List (Int × Int)} {ps : List Par} {id : Int} {path : List (Int × Int)} {fresh : Int}
theorem putE_sound {r : List (Int × Int)} (hs : Sound r) (path : List (Int × Int)) : area (putE r path) = area r ∧ Sound (putE r path) := by
  obtain ⟨a1, s1, -⟩ := putC_sound hs (pF path)
  obtain ⟨a2, s2, -⟩ := putC_sound s1 (pL path)
  exact ⟨by unfold putE; rw [a2, a1], s2⟩
theorem sp_len (h : sptE o ps id path fresh = 0) : (sptL ps id path fresh).length = ps.length + 1 := by
  obtain ⟨h1, h2, h3, h4⟩ := sp_zero h
  have hnd := ((chkQ_iff _ _).1 h1).ids
  unfold sptL
  rw [(srtQ_perm _).length_eq]
  have key : ∀ qs : List Par, (idsQ qs).Nodup → (cutQ nmL qs id path fresh).length = qs.length + (if id ∈ idsQ qs then 1 else 0) := fun qs => by
    induction qs with
    | nil => intro _; simp [cutQ, idsQ]
    | cons x qs ih =>
      intro hn
      unfold idsQ at hn
      rw [List.map_cons] at hn
      obtain ⟨n1, n2⟩ := List.nodup_cons.1 hn
      have e : cutQ nmL (x :: qs) id path fresh = cutPar nmL id path fresh x ++ cutQ nmL qs id path fresh := by unfold cutQ; rw [List.flatMap_cons]
      rw [e, List.length_append, ih n2, List.length_cons]
      have hm : id ∈ idsQ (x :: qs) ↔ id = x.id ∨ id ∈ idsQ qs := by unfold idsQ; rw [List.map_cons, List.mem_cons]
      unfold cutPar
      by_cases hx : x.id = id
      · have hno : id ∉ idsQ qs := by rw [← hx]; exact n1
        rw [if_pos hx, if_neg hno, if_pos (hm.2 (.inl hx.symm))]
        simp; omega
      · rw [if_neg hx]
        by_cases hq : id ∈ idsQ qs
        · rw [if_pos hq, if_pos (hm.2 (.inr hq))]; simp; omega
        · rw [if_neg hq, if_neg (fun hh => (hm.1 hh).elim (fun e => hx e.symm) hq)]; simp; omega
  rw [key ps hnd, if_pos h2]
/-- Each parcel of what comes: a part, or one that was there, with corners on its edges. -/
theorem sp_each (h : sptE o ps id path fresh = 0) {y : Par} (hy : y ∈ sptL ps id path fresh) : y.id = id ∨ y.id = fresh ∨ (y.id ≠ id ∧ y.id ≠ fresh ∧ ∃ z ∈ ps, z.id = y.id ∧ z.own = y.own ∧ y.ring = putE z.ring path ∧ area y.ring = area z.ring) := by
  obtain ⟨h1, h2, h3, h4⟩ := sp_zero h
  have hP := (chkQ_iff _ _).1 h1
  have hc := (srtQ_perm _).subset hy
  unfold cutQ at hc
  obtain ⟨z, hz, hyz⟩ := List.mem_flatMap.1 hc
  unfold cutPar at hyz
  by_cases hid : z.id = id
  · rw [if_pos hid] at hyz
    simp only [List.mem_cons, List.not_mem_nil, or_false] at hyz
    rcases hyz with rfl | rfl
    · exact .inr (.inl rfl)
    · exact .inl hid
  · rw [if_neg hid] at hyz
    simp only [List.mem_cons, List.not_mem_nil, or_false] at hyz
    subst hyz
    refine .inr (.inr ⟨hid, fun e => (ft_zero h3).2.1 (List.mem_map.2 ⟨z, hz, e⟩), z, hz, rfl, rfl, rfl, (putE_sound (hP.ringP hz).1 path).1⟩)
/-- The areas of both parts, and of all others. -/
theorem sp_areas (h : sptE o ps id path fresh = 0) : sumL (fun y => if y.id = id ∨ y.id = fresh then area y.ring else 0) (sptL ps id path fresh) = area (rgQ ps id) ∧ area (putE o path) = area o := by
  obtain ⟨h1, h2, h3, h4⟩ := sp_zero h
  have hP := (chkQ_iff _ _).1 h1
  have hQ := (chkQ_iff _ _).1 h4
  refine ⟨?_, (putE_sound hP.outP.1 path).1⟩
  obtain ⟨x, hx, hid, p1, p2⟩ := sp_parts h
  have c1 := nmL_some (hQ.each _ p1)
  have c2 := nmL_some (hQ.each _ p2)
  have hb := hP.onBoth hx hid h3
  obtain ⟨m1, m2⟩ := putE_mem (hP.ringP hx).1 hb
  obtain ⟨pa, psn⟩ := putE_sound (hP.ringP hx).1 path
  have hz := ft_zero h3
  have hsum := area_sides (sound_nodup psn) m1 m2 hz.2.2.2.1 (by omega)
  have hnf : ∀ z ∈ ps, z.id ≠ fresh := fun z hz' e => hz.2.1 (List.mem_map.2 ⟨z, hz', e⟩)
  rw [hP.ring_of hx hid]
  unfold sptL
  rw [sumL_perm _ (srtQ_perm _)]
  have key : ∀ qs : List Par, (idsQ qs).Nodup → (∀ z ∈ qs, z.id ≠ fresh) → (∀ z ∈ qs, z.id = id → z = x) → sumL (fun y => if y.id = id ∨ y.id = fresh then area y.ring else 0) (cutQ nmL qs id path fresh) = if id ∈ idsQ qs then area x.ring else 0 := fun qs => by
    induction qs with
    | nil => intro _ _ _; simp [cutQ, sumL, idsQ]
    | cons z qs ih =>
      intro hn hf ho
      unfold idsQ at hn
      rw [List.map_cons] at hn
      obtain ⟨n1, n2⟩ := List.nodup_cons.1 hn
      have e : cutQ nmL (z :: qs) id path fresh = cutPar nmL id path fresh z ++ cutQ nmL qs id path fresh := by unfold cutQ; rw [List.flatMap_cons]
      have hm : id ∈ idsQ (z :: qs) ↔ id = z.id ∨ id ∈ idsQ qs := by unfold idsQ; rw [List.map_cons, List.mem_cons]
      rw [e, sumL_append, ih n2 (fun y hy => hf y (List.mem_cons_of_mem _ hy)) (fun y hy => ho y (List.mem_cons_of_mem _ hy))]
      unfold cutPar
      by_cases hz' : z.id = id
      · have hzx := ho z List.mem_cons_self hz'
        subst hzx
        have hno : id ∉ idsQ qs := by rw [← hz']; exact n1
        rw [if_pos hz', if_neg hno, if_pos (hm.2 (.inl hz'.symm))]
        simp only [sumL]
        rw [if_pos (by simp), if_pos (by simp [hz']), area_nmL c1, area_nmL c2]
        omega
      · rw [if_neg hz']
        simp only [sumL]
        rw [if_neg (fun hh => hh.elim hz' (hf z List.mem_cons_self))]
        by_cases hq : id ∈ idsQ qs
        · rw [if_pos hq, if_pos (hm.2 (.inr hq))]; omega
        · rw [if_neg hq, if_neg (fun hh => (hm.1 hh).elim (fun e => hz' e.symm) hq)]; omega
  rw [key ps hP.ids hnf (fun z hz hi => hP.one hz hx (hi.trans hid.symm)), if_pos h2]
end
end Go.Proofs.YtplbfiglkllljaaGreat

/- The path that is walked the other way: corners may be put in any order; the two parts are each other's. -/
namespace Go.Proofs.YtplbfiglkllljaaGreat
open Go.RowKit

theorem nx_mark {r : List (Int × Int)} {k : Nat} (hk : k < r.length) (p : Int × Int) : (∀ m, m ≤ k → nx (mark r k p) m = nx r m) ∧ nx (mark r k p) (k + 1) = p ∧ ∀ m, k < m → m ≤ r.length → nx (mark r k p) (m + 1) = nx r m := by
  have hl := mark_length hk p
  have ht : (r.take (k + 1)).length = k + 1 := by rw [List.length_take]; omega
  refine ⟨fun m hm => ?_, ?_, fun m h1 h2 => ?_⟩
  · rw [nx_lt (by omega), nx_lt (by omega)]
    unfold mark
    rw [List.getElem_append_left (by rw [List.length_append, ht]; simp; omega), List.getElem_append_left (by rw [ht]; omega), List.getElem_take]
  · rw [nx_lt (by omega)]
    unfold mark
    rw [List.getElem_append_left (by rw [List.length_append, ht]; simp), List.getElem_append_right (by rw [ht]; omega)]
    simp [ht]
  · by_cases e : m = r.length
    · subst e
      have e1 := nx_per (mark r k p) 0
      have e2 := nx_per r 0
      rw [Nat.zero_add] at e1 e2
      rw [hl] at e1
      rw [e1, e2, nx_mark0 hk]
    · rw [nx_lt (by omega), nx_lt (by omega)]
      unfold mark
      rw [List.getElem_append_right (by rw [List.length_append, ht]; simp; omega), List.getElem_drop]
      congr 1
      rw [List.length_append, ht]
      simp
      omega
theorem mark_mark {r : List (Int × Int)} {i j : Nat} (hij : i ≤ j) (hj : j < r.length) (a b : Int × Int) : mark (mark r i a) (j + 1) b = mark (mark r j b) i a := by
  have e : r = r.take (i + 1) ++ ((r.take (j + 1)).drop (i + 1) ++ r.drop (j + 1)) := by
    conv => lhs; rw [← List.take_append_drop (j + 1) r, ← List.take_append_drop (i + 1) (r.take (j + 1))]
    rw [List.take_take, show min (i + 1) (j + 1) = i + 1 by omega, List.append_assoc]
  obtain ⟨P, hP⟩ : ∃ P, r.take (i + 1) = P := ⟨_, rfl⟩
  obtain ⟨Q, hQ⟩ : ∃ Q, (r.take (j + 1)).drop (i + 1) = Q := ⟨_, rfl⟩
  obtain ⟨S, hS⟩ : ∃ S, r.drop (j + 1) = S := ⟨_, rfl⟩
  have lP : P.length = i + 1 := by rw [← hP, List.length_take]; omega
  have lQ : Q.length = j - i := by rw [← hQ, List.length_drop, List.length_take]; omega
  rw [hP, hQ, hS] at e
  have m1 : mark r i a = P ++ a :: (Q ++ S) := by
    unfold mark
    rw [hP, e, List.drop_left' (by omega)]
    simp
  have m2 : mark r j b = P ++ (Q ++ b :: S) := by
    unfold mark
    have e2 : r = (P ++ Q) ++ S := by rw [e]; simp
    rw [e2, List.take_left' (by rw [List.length_append]; omega), List.drop_left' (by rw [List.length_append]; omega)]
    simp
  rw [m1, m2]
  unfold mark
  have e3 : P ++ a :: (Q ++ S) = (P ++ a :: Q) ++ S := by simp
  rw [e3, List.take_left' (by simp; omega), List.drop_left' (by simp; omega), List.take_left' (by omega), List.drop_left' (by omega)]
  simp
/-- The edges of a ring with a corner more. -/
theorem ins_mark {r : List (Int × Int)} {k : Nat} (hk : k < r.length) {p : Int × Int} (hp : Ins (nx r k) (nx r (k + 1)) p) {q : Int × Int} {m : Nat} (hm : m < (mark r k p).length) (h : Ins (nx (mark r k p) m) (nx (mark r k p) (m + 1)) q) : ∃ j, j < r.length ∧ Ins (nx r j) (nx r (j + 1)) q := by
  obtain ⟨n1, n2, n3⟩ := nx_mark hk p
  rw [mark_length hk] at hm
  rcases Nat.lt_trichotomy m k with h1 | h1 | h1
  · exact ⟨m, by omega, by rw [n1 m (by omega), n1 (m + 1) (by omega)] at h; exact h⟩
  · subst h1
    rw [n1 m (Nat.le_refl _), n2] at h
    refine ⟨m, hk, on_trans hp.1 h.1, h.2.1, fun e => ?_⟩
    exact not_far hp.1 hp.2.2 (e ▸ h.1)
  · by_cases h2 : m = k + 1
    · subst h2
      rw [n2, n3 (k + 1) (by omega) (by omega)] at h
      refine ⟨k, hk, on_trans' hp.1 h.1, fun e => ?_, h.2.2⟩
      exact not_near hp.1 hp.2.1 (e ▸ h.1)
    · obtain ⟨d, rfl⟩ : ∃ d, m = d + 1 := ⟨m - 1, by omega⟩
      rw [n3 d (by omega) (by omega), n3 (d + 1) (by omega) (by omega)] at h
      exact ⟨d, by omega, h⟩
theorem putC_no {r : List (Int × Int)} {p : Int × Int} (h : ¬ ∃ j, j < r.length ∧ Ins (nx r j) (nx r (j + 1)) p) : putC r p = r := putC_off fun i hi hh => h ⟨i, hi, hh⟩
theorem putC_two {r : List (Int × Int)} (hs : Sound r) {i j : Nat} (hi : i < r.length) (hj : j < r.length) {a b : Int × Int} (ha : Ins (nx r i) (nx r (i + 1)) a) (hb : Ins (nx r j) (nx r (j + 1)) b) (hij : i < j) : putC (putC r a) b = putC (putC r b) a := by
  obtain ⟨n1, n2, n3⟩ := nx_mark hi a
  obtain ⟨k1, k2, k3⟩ := nx_mark hj b
  rw [putC_at hs hi ha, putC_at hs hj hb]
  rw [putC_at (k := j + 1) (mark_sound hs hi ha).2.1 (by rw [mark_length hi]; omega) (by rw [n3 j hij (by omega), n3 (j + 1) (by omega) (by omega)]; exact hb)]
  rw [putC_at (k := i) (mark_sound hs hj hb).2.1 (by rw [mark_length hj]; omega) (by rw [k1 i (by omega), k1 (i + 1) (by omega)]; exact ha)]
  exact mark_mark (by omega) hj a b
theorem putC_same {r : List (Int × Int)} (hs : Sound r) {i : Nat} (hi : i < r.length) {a b : Int × Int} (ha : Ins (nx r i) (nx r (i + 1)) a) (hb : Ins (nx r i) (nx r (i + 1)) b) (hne : a ≠ b) (h : OnS (nx r i) a b) : putC (putC r a) b = putC (putC r b) a := by
  obtain ⟨n1, n2, n3⟩ := nx_mark hi a
  obtain ⟨k1, k2, k3⟩ := nx_mark hi b
  rw [putC_at hs hi ha, putC_at hs hi hb]
  have h2 : OnS b (nx r (i + 1)) a := by
    rcases on_split hb.1 ha.1 with h3 | h3
    · exact absurd h3 (not_far h (fun e => hne e.symm))
    · exact h3
  rw [putC_at (k := i) (mark_sound hs hi ha).2.1 (by rw [mark_length hi]; omega) (by rw [n1 i (Nat.le_refl _), n2]; exact ⟨h, hb.2.1, fun e => hne e.symm⟩)]
  rw [putC_at (k := i + 1) (mark_sound hs hi hb).2.1 (by rw [mark_length hi]; omega) (by rw [k2, k3 (i + 1) (by omega) (by omega)]; exact ⟨h2, hne, ha.2.2⟩)]
  exact (mark_mark (Nat.le_refl i) hi b a).symm
/-- Two corners may be put in either order. -/
theorem putC_comm {r : List (Int × Int)} (hs : Sound r) (a b : Int × Int) : putC (putC r a) b = putC (putC r b) a := by
  by_cases hab : a = b
  · rw [hab]
  · by_cases hA : ∃ j, j < r.length ∧ Ins (nx r j) (nx r (j + 1)) a
    · obtain ⟨i, hi, ha⟩ := hA
      by_cases hB : ∃ j, j < r.length ∧ Ins (nx r j) (nx r (j + 1)) b
      · obtain ⟨j, hj, hb⟩ := hB
        rcases Nat.lt_trichotomy i j with h | h | h
        · exact putC_two hs hi hj ha hb h
        · subst h
          rcases on_split ha.1 hb.1 with h | h
          · exact putC_same hs hi ha hb hab h
          · have h2 : OnS (nx r i) b a := by
              rcases on_split hb.1 ha.1 with h3 | h3
              · exact h3
              · exact absurd h3 (not_near h (fun e => hab e.symm))
            exact (putC_same hs hi hb ha (fun e => hab e.symm) h2).symm
        · exact (putC_two hs hj hi hb ha h).symm
      · rw [putC_no hB, putC_at hs hi ha]
        exact putC_no fun ⟨j, hj, h⟩ => hB (ins_mark hi ha hj h)
    · rw [putC_no hA]
      by_cases hB : ∃ j, j < r.length ∧ Ins (nx r j) (nx r (j + 1)) b
      · obtain ⟨j, hj, hb⟩ := hB
        rw [putC_at hs hj hb]
        exact (putC_no fun ⟨m, hm, h⟩ => hA (ins_mark hj hb hm h)).symm
      · rw [putC_no hB, putC_no hA]
theorem putE_rev {r path : List (Int × Int)} (hs : Sound r) (h : 1 ≤ path.length) : putE r path.reverse = putE r path := by
  obtain ⟨r1, r2⟩ := rev_pF h
  unfold putE
  rw [r1, r2, putC_comm hs]

/-! Soundness asks nothing of which ring has which number. -/
theorem edgs_perm {L M : List (List (Int × Int))} (h : L.Perm M) : (edgs L).Perm (edgs M) := h.flatMap_right edg
theorem fit_perm {o : List (Int × Int)} {L M : List (List (Int × Int))} (h : L.Perm M) (hf : Fit o L) : Fit o M := by
  have he := edgs_perm h
  exact ⟨hf.outer, fun r hr => hf.each r (h.symm.subset hr), he.nodup_iff.1 hf.once, fun e h' => he.subset (hf.out e h'), fun e h' => (hf.both e (he.symm.subset h')).trans (not_congr ⟨fun h => he.subset h, fun h => he.symm.subset h⟩), fun a ha b hb hab => hf.clear a (he.symm.subset ha) b (he.symm.subset hb) hab⟩
theorem plan_perm {o : List (Int × Int)} {ps qs : List Par} (hP : PlanQ o ps) (h1 : (ps.map fun x => (x.id, x.own)).Perm (qs.map fun x => (x.id, x.own))) (h2 : (ringsQ ps).Perm (ringsQ qs)) (h3 : qs.Pairwise fun a b => a.id < b.id) : PlanQ o qs := by
  have hl : qs.length = ps.length := by have := h1.length_eq; rw [List.length_map, List.length_map] at this; exact this.symm
  have hr : ∀ {f : List (Int × Int) → Int}, sumL (fun x : Par => f x.ring) qs = sumL (fun x : Par => f x.ring) ps := fun {f} => by
    have := sumL_perm f h2
    unfold ringsQ at this
    rw [sumL_map, sumL_map] at this
    exact this.symm
  refine ⟨⟨h3, fun x hx => ?_, by rw [hl]; exact hP.fine.2.2.1, by rw [hl]; exact hP.fine.2.2.2.1, ?_⟩, hP.out, fun x hx => ?_, ?_, fit_perm h2 hP.fit⟩
  · obtain ⟨y, hy, e⟩ := List.mem_map.1 (h1.symm.subset (List.mem_map_of_mem hx))
    have := hP.fine.2.1 y hy
    obtain ⟨e1, e2⟩ := Prod.ext_iff.1 e
    simp only at e1 e2
    rw [e1, e2] at this
    exact this
  · rw [hr (f := fun r => (r.length : Int))]; exact hP.fine.2.2.2.2
  · obtain ⟨y, hy, e⟩ := List.mem_map.1 (h2.symm.subset (List.mem_map_of_mem (f := Par.ring) hx))
    rw [← e]; exact hP.each y hy
  · rw [hr (f := area)]; exact hP.sum
section
variable {o : List (Int × Int)} {ps : List Par} {id : Int} {path : List (Int × Int)} {fresh : Int}
theorem srtQ_lt {m : List Par} (hnd : (m.map Par.id).Nodup) : (srtQ m).Pairwise fun a b => a.id < b.id := by
  have hq : ((srtQ m).map Par.id).Nodup := ((srtQ_perm m).map Par.id).nodup_iff.2 hnd
  have h2 : (srtQ m).Pairwise fun a b => a.id ≠ b.id := List.pairwise_map.1 hq
  exact (srtQ_le m).imp₂ (fun a b h1 h2 => by omega) h2
theorem cut_rev (hs : ∀ x ∈ ps, Sound x.ring) (hp : 1 ≤ path.length) : ((cutQ nmL ps id path fresh).map fun x => (x.id, x.own)) = ((cutQ nmL ps id path.reverse fresh).map fun x => (x.id, x.own)) ∧ (ringsQ (cutQ nmL ps id path fresh)).Perm (ringsQ (cutQ nmL ps id path.reverse fresh)) := by
  induction ps with
  | nil => exact ⟨rfl, List.Perm.refl _⟩
  | cons x qs ih =>
    obtain ⟨i1, i2⟩ := ih (fun y hy => hs y (List.mem_cons_of_mem _ hy))
    have e : ∀ pp, cutQ nmL (x :: qs) id pp fresh = cutPar nmL id pp fresh x ++ cutQ nmL qs id pp fresh := fun pp => by unfold cutQ; rw [List.flatMap_cons]
    have hx := putE_rev (hs x List.mem_cons_self) hp
    rw [e, e, List.map_append, List.map_append, i1]
    unfold ringsQ at i2 ⊢
    rw [List.map_append, List.map_append]
    unfold cutPar
    rw [List.reverse_reverse, hx]
    by_cases hid : x.id = id
    · rw [if_pos hid, if_pos hid]
      exact ⟨rfl, List.Perm.append (List.Perm.swap _ _ _) i2⟩
    · rw [if_neg hid, if_neg hid]
      exact ⟨rfl, List.Perm.append (List.Perm.refl _) i2⟩
theorem sp_rev1 (hP : PlanQ o ps) (hf : fresh ∉ idsQ ps) (hp : 1 ≤ path.length) (h : chkQ (putE o path) (sptL ps id path fresh) = true) : chkQ (putE o path.reverse) (sptL ps id path.reverse fresh) = true := by
  obtain ⟨c1, c2⟩ := cut_rev (id := id) (fresh := fresh) (fun x hx => (hP.ringP hx).1) hp
  rw [chkQ_iff] at h ⊢
  rw [putE_rev hP.outP.1 hp]
  refine plan_perm h ?_ ?_ (srtQ_lt (cutQ_ids nmL hP.ids hf).1)
  · unfold sptL
    refine ((srtQ_perm _).map _).trans ?_
    rw [c1]
    exact ((srtQ_perm _).map _).symm
  · unfold sptL ringsQ
    exact (((srtQ_perm _).map _).trans c2).trans ((srtQ_perm _).map _).symm
theorem ft_rev (ids : List Int) (r : List (Int × Int)) : ftE ids r path.reverse fresh = ftE ids r path fresh := by
  unfold ftE
  rw [List.length_reverse, gdL_same (ps := path.reverse) (qs := path) (fun p => List.mem_reverse)]
  by_cases h0 : ¬ (idB fresh = true ∧ 2 ≤ path.length ∧ path.length ≤ 128)
  · rw [if_pos h0, if_pos h0]
  · rw [if_neg h0, if_neg h0]
    obtain ⟨r1, r2⟩ := rev_pF (path := path) (by have := (Classical.not_not.1 h0).2.1; omega)
    rw [r1, r2]
    have e : (pL path ≠ pF path ∧ sdV r (pL path) = 0 ∧ sdV r (pF path) = 0) ↔ (pF path ≠ pL path ∧ sdV r (pF path) = 0 ∧ sdV r (pL path) = 0) := ⟨fun h => ⟨fun e => h.1 e.symm, h.2.2, h.2.1⟩, fun h => ⟨fun e => h.1 e.symm, h.2.2, h.2.1⟩⟩
    by_cases h1 : fresh ∈ ids
    · rw [if_pos h1, if_pos h1]
    · rw [if_neg h1, if_neg h1]
      by_cases h2 : gdL path = false
      · rw [if_pos h2, if_pos h2]
      · rw [if_neg h2, if_neg h2]
        by_cases h3 : pF path ≠ pL path ∧ sdV r (pF path) = 0 ∧ sdV r (pL path) = 0
        · rw [if_neg (fun h => h (e.2 h3)), if_neg (fun h => h h3)]
        · rw [if_pos (fun h => h3 (e.1 h)), if_pos h3]
/-- The error is the same from either side. -/
theorem sp_rev : sptE o ps id path.reverse fresh = sptE o ps id path fresh := by
  cases h1 : chkQ o ps
  · rw [sp_form h1, sp_form h1]
  · by_cases h2 : id ∈ idsQ ps
    · by_cases h3 : ftE (idsQ ps) (rgQ ps id) path fresh = 0
      · have hz := ft_zero h3
        have hP := (chkQ_iff _ _).1 h1
        have h3' : ftE (idsQ ps) (rgQ ps id) path.reverse fresh = 0 := by rw [ft_rev]; exact h3
        have hf := hz.2.1
        cases h4 : chkQ (putE o path) (sptL ps id path fresh)
        · cases h5 : chkQ (putE o path.reverse) (sptL ps id path.reverse fresh)
          · rw [sp_cross h1 h2 h3 h4, sp_cross h1 h2 h3' h5]
          · have := sp_rev1 hP hf (path := path.reverse) (by rw [List.length_reverse]; omega) h5
            rw [List.reverse_reverse, h4] at this
            cases this
        · rw [sp_ok h1 h2 h3 h4, sp_ok h1 h2 h3' (sp_rev1 hP hf (by omega) h4)]
      · rw [sp_fault h1 h2 h3, sp_fault h1 h2 (by rw [ft_rev]; exact h3), ft_rev]
    · rw [sp_none h1 h2, sp_none h1 h2]
/-- The rings of both parts, from either side. -/
theorem sp_swap (h : sptE o ps id path fresh = 0) : ∃ r1 r2 own, (⟨fresh, r1, own⟩ : Par) ∈ sptL ps id path fresh ∧ (⟨id, r2, own⟩ : Par) ∈ sptL ps id path fresh ∧ (⟨fresh, r2, own⟩ : Par) ∈ sptL ps id path.reverse fresh ∧ (⟨id, r1, own⟩ : Par) ∈ sptL ps id path.reverse fresh ∧ putE o path.reverse = putE o path := by
  have h' : sptE o ps id path.reverse fresh = 0 := by rw [sp_rev]; exact h
  have hP := (chkQ_iff _ _).1 (sp_zero h).1
  have hp : 2 ≤ path.length := (ft_zero (sp_zero h).2.2.1).1.2.1
  obtain ⟨x, hx, hid, p1, p2⟩ := sp_parts h
  obtain ⟨y, hy, hid', q1, q2⟩ := sp_parts h'
  obtain rfl := hP.one hx hy (hid.trans hid'.symm)
  rw [putE_rev (hP.ringP hx).1 (by omega)] at q1 q2
  rw [List.reverse_reverse] at q2
  exact ⟨_, _, _, p1, p2, q1, q2, putE_rev hP.outP.1 (by omega)⟩
end
end Go.Proofs.YtplbfiglkllljaaGreat
