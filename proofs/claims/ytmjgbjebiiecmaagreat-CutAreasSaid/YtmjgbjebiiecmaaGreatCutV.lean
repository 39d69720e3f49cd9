/- Both parts of a parcel are together what it was; the two ways round between two corners. -/
import Derived.Test.YtmjgbjebiiecmaaGreatCutL
namespace Go.Proofs.YtmjgbjebiiecmaaGreat
open Go.RowKit

theorem posL_app {α : Type} [DecidableEq α] : ∀ {l1 : List α} {a : α} (_ : a ∉ l1) (l2 : List α), posL (l1 ++ a :: l2) a = l1.length
  | [], a, _, l2 => by simp [posL]
  | x :: l1, a, h, l2 => by
    have hx : ¬ x = a := fun e => h (by rw [e]; exact List.mem_cons_self)
    rw [List.cons_append, posL, if_neg hx, posL_app (fun hh => h (List.mem_cons_of_mem _ hh)) l2, List.length_cons]
theorem posL_split {α : Type} [DecidableEq α] : ∀ {l : List α} {a : α}, a ∈ l → ∃ l1 l2, l = l1 ++ a :: l2 ∧ a ∉ l1
  | [], a, h => by cases h
  | x :: l, a, h => by
    by_cases e : x = a
    · exact ⟨[], l, by rw [e]; rfl, by simp⟩
    · obtain ⟨l1, l2, h1, h2⟩ := posL_split (l := l) (a := a) (by rcases List.mem_cons.1 h with h | h; exact absurd h.symm e; exact h)
      refine ⟨x :: l1, l2, by rw [h1]; rfl, fun hh => ?_⟩
      rcases List.mem_cons.1 hh with hh | hh
      · exact e hh.symm
      · exact h2 hh
theorem behind_app {l1 l2 : List (Int × Int)} {a : Int × Int} (h : a ∉ l1) : behind (l1 ++ a :: l2) a = l2 ++ l1 := by
  unfold behind
  rw [posL_app h, List.take_left' rfl, show l1.length + 1 = (l1 ++ [a]).length by simp, show l1 ++ a :: l2 = (l1 ++ [a]) ++ l2 by simp, List.drop_left' rfl]
theorem arc_app {r m1 m2 : List (Int × Int)} {a b : Int × Int} (h : behind r a = m1 ++ b :: m2) (hb : b ∉ m1) : arc r a b = m1 := by
  unfold arc
  rw [h, posL_app hb, List.take_left' rfl]
/-- A ring, begun at one corner, is that corner, the way to the other, the other, and the way back. -/
theorem arcs_split {r : List (Int × Int)} {a b : Int × Int} (hn : r.Nodup) (ha : a ∈ r) (hb : b ∈ r) (hne : a ≠ b) : posL r a < r.length ∧ r.drop (posL r a) ++ r.take (posL r a) = a :: arc r a b ++ b :: arc r b a := by
  refine ⟨posL_lt ha, ?_⟩
  obtain ⟨U, V, rfl, hU⟩ := posL_split ha
  rw [posL_app hU, List.take_left' rfl, List.drop_left' rfl]
  obtain ⟨nU, nV, nUV⟩ := List.nodup_append.1 hn
  obtain ⟨nV1, nV2⟩ := List.nodup_cons.1 nV
  have hbb := behind_app (l2 := V) hU
  have hb' : b ∈ U ∨ b ∈ V := by
    rcases List.mem_append.1 hb with h | h
    · exact .inl h
    · rcases List.mem_cons.1 h with h | h
      · exact absurd h.symm hne
      · exact .inr h
  by_cases hV : b ∈ V
  · obtain ⟨V1, V2, rfl, hV1⟩ := posL_split hV
    have h1 : arc (U ++ a :: (V1 ++ b :: V2)) a b = V1 := arc_app (m2 := V2 ++ U) (by rw [hbb]; simp) hV1
    have hbU : b ∉ U := fun h => nUV b h b (List.mem_cons_of_mem _ hV) rfl
    have h2 : behind (U ++ a :: (V1 ++ b :: V2)) b = (V2 ++ U) ++ a :: V1 := by
      have e : U ++ a :: (V1 ++ b :: V2) = (U ++ a :: V1) ++ b :: V2 := by simp
      rw [e, behind_app (fun h => by
        rcases List.mem_append.1 h with h | h
        · exact hbU h
        · rcases List.mem_cons.1 h with h | h
          · exact hne h.symm
          · exact hV1 h)]
      simp
    have h3 : arc (U ++ a :: (V1 ++ b :: V2)) b a = V2 ++ U := arc_app h2 (fun h => by
      rcases List.mem_append.1 h with h | h
      · exact nV1 (List.mem_append_right _ (List.mem_cons_of_mem _ h))
      · exact hU h)
    rw [h1, h3]
    simp
  · have hbU : b ∈ U := hb'.resolve_right hV
    obtain ⟨U1, U2, rfl, hU1⟩ := posL_split hbU
    have h1 : arc (U1 ++ b :: U2 ++ a :: V) a b = V ++ U1 := arc_app (m2 := U2) (by rw [hbb]; simp) (fun h => by
      rcases List.mem_append.1 h with h | h
      · exact hV h
      · exact hU1 h)
    have h2 : behind (U1 ++ b :: U2 ++ a :: V) b = U2 ++ a :: (V ++ U1) := by
      have e : U1 ++ b :: U2 ++ a :: V = U1 ++ b :: (U2 ++ a :: V) := by simp
      rw [e, behind_app hU1]
      simp
    have h3 : arc (U1 ++ b :: U2 ++ a :: V) b a = U2 := arc_app h2 (fun h => hU (List.mem_append_right _ (List.mem_cons_of_mem _ h)))
    rw [h1, h3]
    simp
theorem sound_nodup {r : List (Int × Int)} (hs : Sound r) : r.Nodup := List.pairwise_iff_getElem.2 fun i j hi hj hij e => by
  have := nx_inj hs hi hj (by rw [nx_lt hi, nx_lt hj, e])
  omega
theorem area_rot {r : List (Int × Int)} {k : Nat} (hk : k < r.length) : area (r.drop k ++ r.take k) = area r := (begins k (by rw [List.length_append, List.length_drop, List.length_take]; omega) (nx_dt hk)).1
theorem area_nmL {r : List (Int × Int)} (h : chE r = 0) : area (nmL r) = area r := by
  have h3 := (chE_zero.1 h).2.1
  rw [nmL_eq h]
  exact (begins (leastI r r.length) (rotL_length _ _) (fun i => nx_rotL _ _ _ (by omega))).1
theorem last_app {path : List (Int × Int)} (h : 1 ≤ path.length) : path = path.dropLast ++ [pL path] := by
  have hne : path ≠ [] := fun e => by rw [e] at h; simp at h
  have e : pL path = path.getLast hne := by
    unfold pL
    rw [nx_lt (by omega), List.getLast_eq_getElem]
  rw [e, List.dropLast_concat_getLast hne]
/-- The area of a path and a way back. -/
theorem area_closed {path A : List (Int × Int)} (h : 1 ≤ path.length) : area (path ++ A) = wsum (chn path) + wsum (chn (pL path :: (A ++ [pF path]))) := by
  have e0 : nx (path ++ A) 0 = pF path := by
    unfold pF
    rw [nx_lt (by rw [List.length_append]; omega), List.getElem_append_left (by omega), nx_lt (by omega)]
  rw [area_edg, edg_chn, e0, List.append_assoc, ← wsum_append]
  congr 1
  have e1 := last_app h
  have e2 : path ++ (A ++ [pF path]) = path.dropLast ++ pL path :: (A ++ [pF path]) := by
    calc path ++ (A ++ [pF path]) = (path.dropLast ++ [pL path]) ++ (A ++ [pF path]) := by rw [← e1]
      _ = _ := by simp
  rw [e2, chn_append, ← e1]
/-- What both sides of a path come to. -/
theorem area_sides {r path : List (Int × Int)} (hn : r.Nodup) (hF : pF path ∈ r) (hL : pL path ∈ r) (hne : pF path ≠ pL path) (h : 1 ≤ path.length) : area (closedL path r) + area (closedL path.reverse r) = area r := by
  obtain ⟨r1, r2⟩ := rev_pF h
  unfold closedL
  rw [r1, r2, area_closed h, area_closed (by rw [List.length_reverse]; exact h), r1, r2, wsum_rev]
  obtain ⟨hj, hs⟩ := arcs_split hn hF hL hne
  rw [← area_rot hj, hs]
  have e : area (pF path :: arc r (pF path) (pL path) ++ pL path :: arc r (pL path) (pF path)) = wsum (chn (pF path :: (arc r (pF path) (pL path) ++ [pL path]))) + wsum (chn (pL path :: (arc r (pL path) (pF path) ++ [pF path]))) := by
    rw [area_edg, edg_chn]
    have e0 : nx (pF path :: arc r (pF path) (pL path) ++ pL path :: arc r (pL path) (pF path)) 0 = pF path := by rw [nx_lt (by simp)]; rfl
    rw [e0]
    have e1 : (pF path :: arc r (pF path) (pL path) ++ pL path :: arc r (pL path) (pF path)) ++ [pF path] = (pF path :: arc r (pF path) (pL path)) ++ pL path :: (arc r (pL path) (pF path) ++ [pF path]) := by simp
    rw [e1, chn_append, wsum_append]
    rfl
  rw [e]
  omega
section
variable {o : List (Int × Int)} {ps : List Par} {id : Int} {path : List (Int × Int)} {fresh : Int}
theorem putE_sound {r : List (Int × Int)} (hs : Sound r) (path : List (Int × Int)) : area (putE r path) = area r ∧ Sound (putE r path) := by
  obtain ⟨a1, s1, -⟩ := putC_sound hs (pF path)
  obtain ⟨a2, s2, -⟩ := putC_sound s1 (pL path)
  exact ⟨by unfold putE; rw [a2, a1], s2⟩
theorem sp_len (h : sptE o ps id path fresh = 0) : (sptL ps id path fresh).length = ps.length + 1 := by
  obtain ⟨h1, h2, h3, h4⟩ := sp_zero h
  have hnd := ((chkQ_iff _ _).1 h1).ids
  unfold sptL
  rw [(srtQ_perm _).length_eq]
  have key : ∀ qs : List Par, (idsQ qs).Nodup → (cutQ nmL qs id path fresh).length = qs.length + (if id ∈ idsQ qs then 1 else 0) := fun qs => by
    induction qs with
    | nil => intro _; simp [cutQ, idsQ]
    | cons x qs ih =>
      intro hn
      unfold idsQ at hn
      rw [List.map_cons] at hn
      obtain ⟨n1, n2⟩ := List.nodup_cons.1 hn
      have e : cutQ nmL (x :: qs) id path fresh = cutPar nmL id path fresh x ++ cutQ nmL qs id path fresh := by unfold cutQ; rw [List.flatMap_cons]
      rw [e, List.length_append, ih n2, List.length_cons]
      have hm : id ∈ idsQ (x :: qs) ↔ id = x.id ∨ id ∈ idsQ qs := by unfold idsQ; rw [List.map_cons, List.mem_cons]
      unfold cutPar
      by_cases hx : x.id = id
      · have hno : id ∉ idsQ qs := by rw [← hx]; exact n1
        rw [if_pos hx, if_neg hno, if_pos (hm.2 (.inl hx.symm))]
        simp; omega
      · rw [if_neg hx]
        by_cases hq : id ∈ idsQ qs
        · rw [if_pos hq, if_pos (hm.2 (.inr hq))]; simp; omega
        · rw [if_neg hq, if_neg (fun hh => (hm.1 hh).elim (fun e => hx e.symm) hq)]; simp; omega
  rw [key ps hnd, if_pos h2]
/-- Each parcel of what comes: a part, or one that was there, with corners on its edges. -/
theorem sp_each (h : sptE o ps id path fresh = 0) {y : Par} (hy : y ∈ sptL ps id path fresh) : y.id = id ∨ y.id = fresh ∨ (y.id ≠ id ∧ y.id ≠ fresh ∧ ∃ z ∈ ps, z.id = y.id ∧ z.own = y.own ∧ y.ring = putE z.ring path ∧ area y.ring = area z.ring) := by
  obtain ⟨h1, h2, h3, h4⟩ := sp_zero h
  have hP := (chkQ_iff _ _).1 h1
  have hc := (srtQ_perm _).subset hy
  unfold cutQ at hc
  obtain ⟨z, hz, hyz⟩ := List.mem_flatMap.1 hc
  unfold cutPar at hyz
  by_cases hid : z.id = id
  · rw [if_pos hid] at hyz
    simp only [List.mem_cons, List.not_mem_nil, or_false] at hyz
    rcases hyz with rfl | rfl
    · exact .inr (.inl rfl)
    · exact .inl hid
  · rw [if_neg hid] at hyz
    simp only [List.mem_cons, List.not_mem_nil, or_false] at hyz
    subst hyz
    refine .inr (.inr ⟨hid, fun e => (ft_zero h3).2.1 (List.mem_map.2 ⟨z, hz, e⟩), z, hz, rfl, rfl, rfl, (putE_sound (hP.ringP hz).1 path).1⟩)
/-- The areas of both parts, and of all others. -/
theorem sp_areas (h : sptE o ps id path fresh = 0) : sumL (fun y => if y.id = id ∨ y.id = fresh then area y.ring else 0) (sptL ps id path fresh) = area (rgQ ps id) ∧ area (putE o path) = area o := by
  obtain ⟨h1, h2, h3, h4⟩ := sp_zero h
  have hP := (chkQ_iff _ _).1 h1
  have hQ := (chkQ_iff _ _).1 h4
  refine ⟨?_, (putE_sound hP.outP.1 path).1⟩
  obtain ⟨x, hx, hid, p1, p2⟩ := sp_parts h
  have c1 := nmL_some (hQ.each _ p1)
  have c2 := nmL_some (hQ.each _ p2)
  have hb := hP.onBoth hx hid h3
  obtain ⟨m1, m2⟩ := putE_mem (hP.ringP hx).1 hb
  obtain ⟨pa, psn⟩ := putE_sound (hP.ringP hx).1 path
  have hz := ft_zero h3
  have hsum := area_sides (sound_nodup psn) m1 m2 hz.2.2.2.1 (by omega)
  have hnf : ∀ z ∈ ps, z.id ≠ fresh := fun z hz' e => hz.2.1 (List.mem_map.2 ⟨z, hz', e⟩)
  rw [hP.ring_of hx hid]
  unfold sptL
  rw [sumL_perm _ (srtQ_perm _)]
  have key : ∀ qs : List Par, (idsQ qs).Nodup → (∀ z ∈ qs, z.id ≠ fresh) → (∀ z ∈ qs, z.id = id → z = x) → sumL (fun y => if y.id = id ∨ y.id = fresh then area y.ring else 0) (cutQ nmL qs id path fresh) = if id ∈ idsQ qs then area x.ring else 0 := fun qs => by
    induction qs with
    | nil => intro _ _ _; simp [cutQ, sumL, idsQ]
    | cons z qs ih =>
      intro hn hf ho
      unfold idsQ at hn
      rw [List.map_cons] at hn
      obtain ⟨n1, n2⟩ := List.nodup_cons.1 hn
      have e : cutQ nmL (z :: qs) id path fresh = cutPar nmL id path fresh z ++ cutQ nmL qs id path fresh := by unfold cutQ; rw [List.flatMap_cons]
      have hm : id ∈ idsQ (z :: qs) ↔ id = z.id ∨ id ∈ idsQ qs := by unfold idsQ; rw [List.map_cons, List.mem_cons]
      rw [e, sumL_append, ih n2 (fun y hy => hf y (List.mem_cons_of_mem _ hy)) (fun y hy => ho y (List.mem_cons_of_mem _ hy))]
      unfold cutPar
      by_cases hz' : z.id = id
      · have hzx := ho z List.mem_cons_self hz'
        subst hzx
        have hno : id ∉ idsQ qs := by rw [← hz']; exact n1
        rw [if_pos hz', if_neg hno, if_pos (hm.2 (.inl hz'.symm))]
        simp only [sumL]
        rw [if_pos (by simp), if_pos (by simp [hz']), area_nmL c1, area_nmL c2]
        omega
      · rw [if_neg hz']
        simp only [sumL]
        rw [if_neg (fun hh => hh.elim hz' (hf z List.mem_cons_self))]
        by_cases hq : id ∈ idsQ qs
        · rw [if_pos hq, if_pos (hm.2 (.inr hq))]; omega
        · rw [if_neg hq, if_neg (fun hh => (hm.1 hh).elim (fun e => hz' e.symm) hq)]; omega
  rw [key ps hP.ids hnf (fun z hz hi => hP.one hz hx (hi.trans hid.symm)), if_pos h2]
end
end Go.Proofs.YtmjgbjebiiecmaaGreat

/- The path that is walked the other way: corners may be put in any order; the two parts are each other's. -/
namespace Go.Proofs.YtmjgbjebiiecmaaGreat
open Go.RowKit

/-! Soundness asks nothing of which ring has which number. -/
section
variable {o : List (Int × Int)} {ps : List Par} {id : Int} {path : List (Int × Int)} {fresh : Int}
end
end Go.Proofs.YtmjgbjebiiecmaaGreat
