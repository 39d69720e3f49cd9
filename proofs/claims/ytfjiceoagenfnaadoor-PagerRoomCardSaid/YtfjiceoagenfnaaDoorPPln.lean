/- Layer pager, plain: the states of pages, roots as sectors, what a disk's roots are. -/
import Derived.Test.YtfjiceoagenfnaaDoorFNum
import Derived.Test.YtfjiceoagenfnaaDoorSPln
namespace Go.Proofs.YtfjiceoagenfnaaDoor

/-- What is known of pages: the states of all sectors (0 free, 1 spare, 2 taken, 3 kept, 4 freed), how many flips, the root. -/
structure PS where
  ts : List Nat
  seq : Nat
  root : Nat
def fre (c : Nat) : Bool := decide (c ≤ 1)
def roomOf (ts : List Nat) : Nat := (ts.drop 2).countP fre
def useC (c : Nat) : Nat := if c = 1 ∨ c = 2 then 2 else 3
def relC (c : Nat) : Nat := if c = 2 then 1 else if c = 3 then 4 else c
def flC (c : Nat) : Nat := if c = 2 ∨ c = 3 then 3 else 0
theorem roomOf_set {ts : List Nat} {i : Nat} (h2 : 2 ≤ i) (h : i < ts.length) (c : Nat) :
    roomOf (ts.set i c) + (if fre (ts.getD i 0) then 1 else 0) = roomOf ts + (if fre c then 1 else 0) := by
  unfold roomOf
  have e : (ts.set i c).drop 2 = (ts.drop 2).set (i - 2) c := by rw [List.drop_set, if_neg (by omega)]
  have hl : i - 2 < (ts.drop 2).length := by rw [List.length_drop]; omega
  rw [e, List.countP_set hl]
  have hg : (ts.drop 2)[i - 2] = ts.getD i 0 := by
    rw [List.getElem_drop, List.getD_eq_getElem?_getD, List.getElem?_eq_getElem h]
    show ts[2 + (i - 2)] = ts[i]
    congr 1; omega
  rw [hg]
  have hp : fre (ts.getD i 0) = true → 0 < (ts.drop 2).countP fre := fun hf => List.countP_pos_iff.2 ⟨_, List.getElem_mem hl, by rw [hg]; exact hf⟩
  split
  · have := hp (by assumption); omega
  · omega
theorem roomOf_le (ts : List Nat) : roomOf ts ≤ ts.length - 2 := by
  unfold roomOf
  have := List.countP_le_length (p := fre) (l := ts.drop 2)
  rwa [List.length_drop] at this
theorem roomOf_new (n : Nat) : roomOf (List.replicate n 0) = n - 2 := by
  unfold roomOf
  rw [List.drop_replicate, List.countP_replicate]
  rfl
theorem roomOf_pos {ts : List Nat} {i : Nat} (h2 : 2 ≤ i) (h : i < ts.length) (hf : fre (ts.getD i 0) = true) : 0 < roomOf ts := by
  unfold roomOf
  refine List.countP_pos_iff.2 ⟨ts.getD i 0, ?_, hf⟩
  rw [List.getD_eq_getElem?_getD, List.getElem?_eq_getElem h]
  refine List.mem_iff_getElem.2 ⟨i - 2, by rw [List.length_drop]; omega, ?_⟩
  rw [List.getElem_drop]
  show ts[2 + (i - 2)] = ts[i]
  congr 1; omega
theorem roomOf_zero {ts : List Nat} (h : ∀ i, 2 ≤ i → i < ts.length → fre (ts.getD i 0) = false) : roomOf ts = 0 := by
  unfold roomOf
  refine List.countP_eq_zero.2 fun c hc => ?_
  obtain ⟨i, hi, rfl⟩ := List.mem_iff_getElem.1 hc
  rw [List.length_drop] at hi
  have := h (2 + i) (by omega) (by omega)
  rw [List.getElem_drop]
  rw [List.getD_eq_getElem?_getD, List.getElem?_eq_getElem (by omega)] at this
  intro e
  have e2 : fre ts[2 + i] = true := e
  rw [show ((some ts[2 + i] : Option Nat).getD 0) = ts[2 + i] from rfl] at this
  rw [this] at e2; cases e2
/-- The pages' states behind a Flip. -/
def flipL (ts : List Nat) : List Nat := ts.take 2 ++ (ts.drop 2).map flC
theorem flipL_len (ts : List Nat) : (flipL ts).length = ts.length := by simp [flipL]; omega
theorem flipL_get (ts : List Nat) (i : Nat) : (flipL ts).getD i 0 = if 2 ≤ i then flC (ts.getD i 0) else ts.getD i 0 := by
  unfold flipL
  by_cases hl : i < ts.length
  · by_cases h : 2 ≤ i
    · rw [if_pos h, List.getD_eq_getElem?_getD, List.getElem?_append_right (by simp; omega), List.getElem?_map]
      have : (ts.take 2).length = 2 := by simp; omega
      rw [this, List.getElem?_drop, show 2 + (i - 2) = i by omega, List.getElem?_eq_getElem hl, List.getD_eq_getElem?_getD, List.getElem?_eq_getElem hl]
      rfl
    · rw [if_neg h, List.getD_eq_getElem?_getD, List.getElem?_append_left (by simp; omega), List.getElem?_take_of_lt (by omega), List.getD_eq_getElem?_getD]
  · have h1 : ts.getD i 0 = 0 := by rw [List.getD_eq_getElem?_getD, List.getElem?_eq_none (by omega)]; rfl
    rw [h1]
    have h2 : (ts.take 2 ++ (ts.drop 2).map flC).getD i 0 = 0 := by
      rw [List.getD_eq_getElem?_getD, List.getElem?_eq_none (by simp; omega)]; rfl
    rw [h2]
    split <;> rfl
/-- The first pages flipped, the others not yet. -/
def flipTo (ts : List Nat) (k : Nat) : List Nat := ts.mapIdx fun i c => if 2 ≤ i ∧ i < k then flC c else c
theorem flipTo_len (ts : List Nat) (k : Nat) : (flipTo ts k).length = ts.length := by simp [flipTo]
theorem flipTo_two (ts : List Nat) : flipTo ts 2 = ts := by
  refine List.ext_getElem? fun i => ?_
  unfold flipTo
  rw [List.getElem?_mapIdx]
  cases ts[i]? with
  | none => rfl
  | some c => simp only [Option.map_some]; rw [if_neg (by omega)]
theorem flipTo_all (ts : List Nat) : flipTo ts ts.length = flipL ts := by
  refine List.ext_getElem? fun i => ?_
  unfold flipTo flipL
  rw [List.getElem?_mapIdx]
  by_cases hl : i < ts.length
  · by_cases h : 2 ≤ i
    · have : (ts.take 2).length = 2 := by simp; omega
      rw [List.getElem?_append_right (by omega), this, List.getElem?_map, List.getElem?_drop, show 2 + (i - 2) = i by omega, List.getElem?_eq_getElem hl]
      simp [h, hl]
    · rw [List.getElem?_append_left (by simp; omega), List.getElem?_take_of_lt (by omega), List.getElem?_eq_getElem hl]
      simp [h]
  · rw [List.getElem?_eq_none (by omega), List.getElem?_eq_none (by simp; omega)]
    rfl
theorem flipTo_next {ts : List Nat} {k : Nat} (h2 : 2 ≤ k) (h : k < ts.length) : (flipTo ts k).getD k 0 = ts.getD k 0 ∧ (flipTo ts k).set k (flC (ts.getD k 0)) = flipTo ts (k + 1) := by
  constructor
  · unfold flipTo
    rw [List.getD_eq_getElem?_getD, List.getElem?_mapIdx, List.getElem?_eq_getElem h, List.getD_eq_getElem?_getD, List.getElem?_eq_getElem h]
    simp
  · refine List.ext_getElem? fun i => ?_
    unfold flipTo
    rw [List.getElem?_set, List.getElem?_mapIdx, List.getElem?_mapIdx]
    by_cases e : k = i
    · subst e
      rw [if_pos rfl, if_pos (by simpa using h), List.getElem?_eq_getElem h, List.getD_eq_getElem?_getD, List.getElem?_eq_getElem h]
      simp [h2]
    · rw [if_neg e]
      cases ts[i]? with
      | none => rfl
      | some c =>
        simp only [Option.map_some]
        by_cases h4 : 2 ≤ i ∧ i < k
        · rw [if_pos h4, if_pos ⟨h4.1, by omega⟩]
        · rw [if_neg h4, if_neg (by omega)]

/-- A root as bytes. -/
def rootD (f : Nat × Nat) : List UInt8 := putL f.1 7 ++ putL f.2 4
theorem rootD_len (f : Nat × Nat) : (rootD f).length = 11 := by simp [rootD, putL_len]
def rootS (f : Nat × Nat) : List UInt8 := sealL 1 (rootD f)
/-- The root that a sector holds. -/
def opF (s : List UInt8) : Nat × Nat := if opE s = 0 ∧ opK s = 1 ∧ (opD s).length = 11 then (numL ((opD s).take 7), numL (((opD s).drop 7).take 4)) else (0, 0)
theorem opF_root {f : Nat × Nat} (h1 : f.1 < 72057594037927936) (h2 : f.2 < 4294967296) : opF (rootS f) = f := by
  obtain ⟨a, b, c⟩ := open_seal (kind := 1) (d := rootD f) (by decide) (by decide) (by rw [rootD_len]; decide)
  unfold opF
  show (if opE (sealL 1 (rootD f)) = 0 ∧ opK (sealL 1 (rootD f)) = 1 ∧ (opD (sealL 1 (rootD f))).length = 11 then _ else _) = _
  rw [if_pos ⟨a, b, by rw [c, rootD_len]⟩]
  show (numL ((opD (sealL 1 (rootD f))).take 7), numL (((opD (sealL 1 (rootD f))).drop 7).take 4)) = f
  rw [c]
  have e1 : (rootD f).take 7 = putL f.1 7 := by
    unfold rootD
    rw [List.take_append_of_le_length (by rw [putL_len]; exact Nat.le_refl _), List.take_of_length_le (by rw [putL_len]; exact Nat.le_refl _)]
  have e2 : (rootD f).drop 7 = putL f.2 4 := by
    unfold rootD
    rw [List.drop_append_of_le_length (by rw [putL_len]; exact Nat.le_refl _), List.drop_of_length_le (by rw [putL_len]; exact Nat.le_refl _), List.nil_append]
  rw [e1, e2, List.take_of_length_le (by rw [putL_len]; exact Nat.le_refl _), put_num (by simpa using h1), put_num (by simpa using h2)]
theorem opF_zer : opF zer = (0, 0) := by
  unfold opF
  rw [if_neg]
  rintro ⟨h, -, -⟩
  have hk : numL ((zer.drop 4).take 1) = 0 := rfl
  unfold opE at h
  have hl : zer.length = 512 := List.length_replicate ..
  rw [if_neg (by rw [hl]; decide)] at h
  split at h
  · cases h
  · rw [if_pos (.inl hk)] at h
    cases h
def fitsF (n : Nat) (f : Nat × Nat) : Bool := decide (f.2 = 0 ∨ (2 ≤ f.2 ∧ f.2 < n))
def moreF (n : Nat) (l f : Nat × Nat) : Nat × Nat := if l.1 < f.1 ∧ fitsF n f = true then f else l
/-- The root of a disk. -/
def lastF (n : Nat) (log : List Wr) : Nat × Nat := moreF n (moreF n (0, 0) (opF (nowL log 0))) (opF (nowL log 1))
/-- How two sectors hold a root, the last of so many. -/
def RootIs (n : Nat) (log : List Wr) (f : Nat × Nat) : Prop :=
  fitsF n f = true ∧ (f.1 = 0 → f = (0, 0) ∧ opF (nowL log 0) = (0, 0) ∧ opF (nowL log 1) = (0, 0)) ∧
  (0 < f.1 → opF (nowL log (f.1 % 2)) = f ∧ (opF (nowL log (1 - f.1 % 2))).1 < f.1)
theorem RootIs.last {n : Nat} {log : List Wr} {f : Nat × Nat} (h : RootIs n log f) : lastF n log = f := by
  obtain ⟨h0, h1, h2⟩ := h
  unfold lastF moreF
  rcases Nat.eq_zero_or_pos f.1 with h3 | h3
  · obtain ⟨e, e0, e1⟩ := h1 h3
    rw [e0, e1, e]
    simp
  · obtain ⟨e, hlt⟩ := h2 h3
    rcases Nat.mod_two_eq_zero_or_one f.1 with hm | hm
    · rw [hm] at e hlt
      rw [e]
      have h4 : (0 : Nat) < f.1 ∧ fitsF n f = true := ⟨h3, h0⟩
      rw [if_pos (show ((0, 0) : Nat × Nat).1 < f.1 ∧ _ from h4), if_neg]
      rintro ⟨h5, -⟩
      rw [show 1 - 0 = 1 from rfl] at hlt
      omega
    · rw [hm] at e hlt
      rw [e]
      rw [show 1 - 1 = 0 from rfl] at hlt
      rw [if_pos]
      refine ⟨?_, h0⟩
      split
      · exact hlt
      · exact h3
theorem RootIs.new (n : Nat) : RootIs n [] (0, 0) := by
  refine ⟨by unfold fitsF; simp, fun _ => ⟨rfl, opF_zer, opF_zer⟩, fun h => ?_⟩
  exact absurd h (by decide)
theorem RootIs.same {n : Nat} {l l' : List Wr} {f : Nat × Nat} (h : RootIs n l f) (h0 : nowL l' 0 = nowL l 0) (h1 : nowL l' 1 = nowL l 1) : RootIs n l' f := by
  obtain ⟨a, b, c⟩ := h
  refine ⟨a, fun e => by rw [h0, h1]; exact b e, fun e => ?_⟩
  rcases Nat.mod_two_eq_zero_or_one f.1 with hm | hm
  · have := c e
    rw [hm] at this ⊢
    rw [h0, show 1 - 0 = 1 from rfl, h1]
    exact this
  · have := c e
    rw [hm] at this ⊢
    rw [h1, show 1 - 1 = 0 from rfl, h0]
    exact this
/-- A root more. -/
theorem RootIs.flip {n : Nat} {l : List Wr} {f : Nat × Nat} (h : RootIs n l f) {r : Nat} (hr : fitsF n (f.1 + 1, r) = true) (hq : f.1 + 1 < 72057594037927936) (hn : n ≤ 65536) : RootIs n (l ++ [((f.1 + 1) % 2, rootS (f.1 + 1, r))]) (f.1 + 1, r) := by
  have hr2 : r < 4294967296 := by
    unfold fitsF at hr
    have := of_decide_eq_true hr
    simp only at this
    omega
  refine ⟨hr, fun e => (by simp at e), fun _ => ⟨?_, ?_⟩⟩
  · show opF (nowL _ ((f.1 + 1) % 2)) = _
    rw [nowL_push, if_pos rfl, opF_root hq hr2]
  · show (opF (nowL _ (1 - (f.1 + 1) % 2))).1 < f.1 + 1
    rw [nowL_push, if_neg (by show ¬ (f.1 + 1) % 2 = _; omega)]
    rw [show 1 - (f.1 + 1) % 2 = f.1 % 2 by omega]
    obtain ⟨a, b, c⟩ := h
    rcases Nat.eq_zero_or_pos f.1 with h3 | h3
    · obtain ⟨e, e0, e1⟩ := b h3
      rw [h3]
      show (opF (nowL l 0)).1 < 0 + 1
      rw [e0]; decide
    · rw [(c h3).1]; omega
end Go.Proofs.YtfjiceoagenfnaaDoor
