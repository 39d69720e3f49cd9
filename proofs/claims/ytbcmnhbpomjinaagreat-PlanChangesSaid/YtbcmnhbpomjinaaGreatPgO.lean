/- The program's Check and the document's are one. -/
import Derived.Test.YtbcmnhbpomjinaaGreatPgN
namespace Go.Proofs.YtbcmnhbpomjinaaGreat

/-- As many in the one as in the other, each once: then all. -/
theorem sub_all {α : Type} [DecidableEq α] : ∀ {l m : List α}, l.Nodup → (∀ a ∈ l, a ∈ m) → m.length ≤ l.length → ∀ a ∈ m, a ∈ l
  | [], m, _, _, h, a, ha => by
    have : m = [] := List.length_eq_zero_iff.1 (by simpa using h)
    rw [this] at ha; cases ha
  | x :: l, m, hn, hs, h, a, ha => by
    obtain ⟨h1, h2⟩ := List.nodup_cons.1 hn
    by_cases e : a = x
    · subst e; exact List.mem_cons_self
    · have hx := hs x List.mem_cons_self
      have h3 : ∀ b ∈ l, b ∈ m.erase x := fun b hb => (List.mem_erase_of_ne (show b ≠ x from fun e => h1 (by rw [← e]; exact hb))).2 (hs b (List.mem_cons_of_mem _ hb))
      have h4 : (m.erase x).length ≤ l.length := by rw [List.length_erase_of_mem hx, List.length_cons] at *; omega
      exact List.mem_cons_of_mem _ (sub_all h2 h3 h4 a ((List.mem_erase_of_ne e).2 ha))
theorem mem_free {es : List EdT} {e : EdT} : e ∈ freeOf es es ↔ e ∈ es ∧ bk e ∉ es := by
  unfold freeOf
  rw [List.mem_filter, decide_eq_true_iff]
theorem bk_bk (e : EdT) : bk (bk e) = e := rfl
/-! What stAll keeps. -/
theorem stK_sub {ks : List EdT} {e a : EdT} (h : a ∈ stK ks e) : a ∈ ks ∨ a = e := by
  unfold stK addKey at h
  split at h
  · exact .inl h
  · split at h
    · exact .inl h
    · rcases List.mem_append.1 h with h | h
      · exact .inl h
      · exact .inr (List.mem_singleton.1 h)
theorem stK_old {ks : List EdT} {e a : EdT} (h : a ∈ ks) : a ∈ stK ks e := by
  unfold stK addKey
  split
  · exact h
  · split
    · exact h
    · exact List.mem_append_left _ h
theorem stK_new (ks : List EdT) (e : EdT) : e ∈ stK ks e ∨ bk e ∈ stK ks e := by
  unfold stK addKey
  split
  · rename_i h; exact .inr h
  · split
    · rename_i h; exact .inl h
    · exact .inl (by simp)
def Afar (a b : EdT) : Prop := a ≠ b ∧ bk a ≠ b
theorem stK_far {ks : List EdT} {e : EdT} (h : ks.Pairwise Afar) : (stK ks e).Pairwise Afar := by
  unfold stK addKey
  split
  · exact h
  · rename_i h1
    split
    · exact h
    · rename_i h2
      refine List.pairwise_append.2 ⟨h, List.pairwise_singleton _ _, fun a ha b hb => ?_⟩
      rw [List.mem_singleton.1 hb]
      exact ⟨fun e => h2 (e ▸ ha), fun e => h1 (by rw [← e, bk_bk]; exact ha)⟩
theorem fold_sub : ∀ {es ks : List EdT} {a : EdT}, a ∈ es.foldl stK ks → a ∈ ks ∨ a ∈ es
  | [], _, _, h => .inl h
  | e :: es, ks, a, h => by
    rcases fold_sub (es := es) h with h | h
    · rcases stK_sub h with h | h
      · exact .inl h
      · exact .inr (h ▸ List.mem_cons_self)
    · exact .inr (List.mem_cons_of_mem _ h)
theorem fold_old : ∀ {es ks : List EdT} {a : EdT}, a ∈ ks → a ∈ es.foldl stK ks
  | [], _, _, h => h
  | _ :: es, _, _, h => fold_old (es := es) (stK_old h)
theorem fold_new : ∀ {es ks : List EdT} {a : EdT}, a ∈ es → a ∈ es.foldl stK ks ∨ bk a ∈ es.foldl stK ks
  | e :: es, ks, a, h => by
    rcases List.mem_cons.1 h with rfl | h
    · exact (stK_new ks a).imp (fold_old (es := es)) (fold_old (es := es))
    · exact fold_new (es := es) h
theorem fold_far : ∀ {es ks : List EdT}, ks.Pairwise Afar → (es.foldl stK ks).Pairwise Afar
  | [], _, h => h
  | _ :: es, _, h => fold_far (es := es) (stK_far h)

/-- Good ends: what the program's Meet tells. -/
theorem mvE_gd {a b : EdT} (ha : Gd a.1 ∧ Gd a.2) (hb : Gd b.1 ∧ Gd b.2) : mvE a b = meet a.1 a.2 b.1 b.2 := by
  unfold mvE mv
  rw [if_pos, meetN_eq]
  rw [gdL_iff]
  intro p hp
  simp only [List.mem_cons, List.not_mem_nil, or_false] at hp
  rcases hp with rfl | rfl | rfl | rfl
  · exact ha.1
  · exact ha.2
  · exact hb.1
  · exact hb.2
theorem loose_iff {a b : EdT} (ha : Gd a.1 ∧ Gd a.2) (hb : Gd b.1 ∧ Gd b.2) : looseB a b = true ↔ (meet a.1 a.2 b.1 b.2 = 0 ∨ (meet a.1 a.2 b.1 b.2 = 1 ∧ joinB a b = true)) := by
  unfold looseB
  rw [Bool.or_eq_true, Bool.and_eq_true, decide_eq_true_iff, decide_eq_true_iff, mvE_gd ha hb]
theorem gd_bk {a : EdT} (h : Gd a.1 ∧ Gd a.2) : Gd (bk a).1 ∧ Gd (bk a).2 := ⟨h.2, h.1⟩
theorem meet_bk (a b : EdT) : meet (bk a).1 (bk a).2 b.1 b.2 = meet a.1 a.2 b.1 b.2 := meet_turn
theorem meet_bk' (a b : EdT) : meet a.1 a.2 (bk b).1 (bk b).2 = meet a.1 a.2 b.1 b.2 := by rw [← meet_swap, meet_bk, meet_swap]
theorem join_bk (a b : EdT) : joinB (bk a) b = joinB a b := by
  rw [Bool.eq_iff_iff, joinB_iff, joinB_iff]
  show (a.2 = b.1 ∨ a.2 = b.2 ∨ a.1 = b.1 ∨ a.1 = b.2) ↔ _
  constructor
  · rintro (h | h | h | h)
    · exact .inr (.inr (.inl h))
    · exact .inr (.inr (.inr h))
    · exact .inl h
    · exact .inr (.inl h)
  · rintro (h | h | h | h)
    · exact .inr (.inr (.inl h))
    · exact .inr (.inr (.inr h))
    · exact .inl h
    · exact .inr (.inl h)
theorem join_bk' (a b : EdT) : joinB a (bk b) = joinB a b := by rw [joinB_symm, join_bk, joinB_symm]
theorem meet_self {a : EdT} (h : a.1 ≠ a.2) : meet a.1 a.2 (bk a).1 (bk a).2 = 3 := meet_three.2 (by
  show M3 a.1 a.2 a.2 a.1
  exact .inl ⟨on_right a.2 a.1, on_left a.2 a.1, h⟩)
section
variable {o : List (Int × Int)} {L : List (List (Int × Int))}
/-- The program's looks make a fit. -/
theorem fit_prog (ho : Sound o) (hs : ∀ r ∈ L, Sound r) (hg : ∀ e ∈ edg o ++ edgs L, Gd e.1 ∧ Gd e.2) (hn : (edgs L).Nodup) (hm : MatchP (edgs L) o) (ha : ApartP (stAll (edg o ++ edgs L))) : Fit o L := by
  have hfn : (freeOf (edgs L) (edgs L)).Nodup := hn.filter _
  have hall : ∀ e ∈ edg o, e ∈ freeOf (edgs L) (edgs L) := sub_all hfn hm.2.1 (by rw [edg_len, hm.2.2]; exact Nat.le_refl _)
  refine ⟨ho, hs, hn, fun e he => (mem_free.1 (hall e he)).1, fun e he => ⟨fun h => (mem_free.1 (hall e h)).2, fun h => hm.2.1 e (mem_free.2 ⟨he, h⟩)⟩, fun a ha' b hb hab => ?_⟩
  have hne : a.1 ≠ a.2 := by
    obtain ⟨r, hr, her⟩ := mem_edgs.1 ha'
    exact edg_ne (hs r hr) her
  have hga := hg a (List.mem_append_right _ ha')
  have hgb := hg b (List.mem_append_right _ hb)
  by_cases hbk : b = bk a
  · subst hbk
    rw [meet_self hne]
    exact ⟨by omega, fun h => absurd h (by omega), fun _ => rfl⟩
  · have key : ∀ a' b', (a' = a ∨ a' = bk a) → (b' = b ∨ b' = bk b) → a' ∈ stAll (edg o ++ edgs L) → b' ∈ stAll (edg o ++ edgs L) → looseB a b = true := fun a' b' h1 h2 m1 m2 => by
      have hne' : a' ≠ b' := by
        rcases h1 with rfl | rfl <;> rcases h2 with rfl | rfl
        · exact hab
        · exact fun e => hbk (by rw [e, bk_bk])
        · exact fun e => hbk e.symm
        · exact fun e => hab (by rw [← bk_bk a, e, bk_bk])
      have hl : looseB a' b' = true := by
        obtain ⟨i, hi, rfl⟩ := List.getElem_of_mem m1
        obtain ⟨j, hj, rfl⟩ := List.getElem_of_mem m2
        rcases Nat.lt_trichotomy i j with k | k | k
        · rw [looseB_symm]; exact ha j i hj k
        · subst k; exact absurd rfl hne'
        · exact ha i j hi k
      have g1 : Gd a'.1 ∧ Gd a'.2 := by rcases h1 with rfl | rfl; exact hga; exact gd_bk hga
      have g2 : Gd b'.1 ∧ Gd b'.2 := by rcases h2 with rfl | rfl; exact hgb; exact gd_bk hgb
      rw [loose_iff g1 g2] at hl
      rw [loose_iff hga hgb]
      have e1 : meet a'.1 a'.2 b'.1 b'.2 = meet a.1 a.2 b.1 b.2 := by
        rcases h1 with rfl | rfl <;> rcases h2 with rfl | rfl
        · rfl
        · exact meet_bk' _ _
        · exact meet_bk _ _
        · rw [meet_bk, meet_bk']
      have e2 : joinB a' b' = joinB a b := by
        rcases h1 with rfl | rfl <;> rcases h2 with rfl | rfl
        · rfl
        · exact join_bk' _ _
        · exact join_bk _ _
        · rw [join_bk, join_bk']
      rw [e1, e2] at hl
      exact hl
    have hl : looseB a b = true := by
      have h1 := fold_new (es := edg o ++ edgs L) (ks := []) (List.mem_append_right _ ha')
      have h2 := fold_new (es := edg o ++ edgs L) (ks := []) (List.mem_append_right _ hb)
      rcases h1 with h1 | h1 <;> rcases h2 with h2 | h2
      · exact key a b (.inl rfl) (.inl rfl) h1 h2
      · exact key a (bk b) (.inl rfl) (.inr rfl) h1 h2
      · exact key (bk a) b (.inr rfl) (.inl rfl) h1 h2
      · exact key (bk a) (bk b) (.inr rfl) (.inr rfl) h1 h2
    rw [loose_iff hga hgb] at hl
    rcases hl with h | ⟨h, h'⟩
    · rw [h]; exact ⟨by omega, fun h => absurd h (by omega), fun h => absurd h (by omega)⟩
    · rw [h]; exact ⟨by omega, fun _ => joinB_iff.1 h', fun h => absurd h (by omega)⟩
/-- A fit passes the program's looks. -/
theorem prog_fit (h : Fit o L) (hg : ∀ e ∈ edg o ++ edgs L, Gd e.1 ∧ Gd e.2) : (edgs L).Nodup ∧ MatchP (edgs L) o ∧ ApartP (stAll (edg o ++ edgs L)) := by
  have hmem : ∀ e, e ∈ freeOf (edgs L) (edgs L) ↔ e ∈ edg o := fun e => by
    rw [mem_free]
    exact ⟨fun ⟨h1, h2⟩ => (h.both e h1).2 h2, fun he => ⟨h.out e he, (h.both e (h.out e he)).1 he⟩⟩
  have hp : (freeOf (edgs L) (edgs L)).Perm (edg o) := perm_nodup (h.once.filter _) (edg_nodup h.outer) hmem
  refine ⟨h.once, ⟨?_, fun e he => (hmem e).1 he, by rw [hp.length_eq, edg_len]⟩, ?_⟩
  · refine (hp.map Prod.fst).nodup_iff.2 ?_
    unfold edg
    rw [List.map_map]
    refine List.Pairwise.map _ ?_ (List.pairwise_lt_range.imp_of_mem fun {a b} ha hb hab => (show (a, b).1 < (a, b).2 ∧ b < o.length from ⟨hab, List.mem_range.1 hb⟩))
    rintro a b ⟨hab, hb⟩ e
    simp only at hab
    exact (h.outer.2.2 a b (by rw [Nat.mod_eq_of_lt (by omega), Nat.mod_eq_of_lt hb]; omega)).1 e
  · have hin : ∀ e ∈ stAll (edg o ++ edgs L), e ∈ edgs L := fun e he => by
      rcases fold_sub he with h1 | h1
      · cases h1
      · rcases List.mem_append.1 h1 with h1 | h1
        · exact h.out e h1
        · exact h1
    rw [apart_iff]
    refine (fold_far (es := edg o ++ edgs L) (ks := []) List.Pairwise.nil).imp_of_mem fun {a b} ha hb hab => ?_
    have h1 := hin a ha
    have h2 := hin b hb
    obtain ⟨c1, c2, c3⟩ := h.clear a h1 b h2 hab.1
    rw [loose_iff (hg a (List.mem_append_right _ h1)) (hg b (List.mem_append_right _ h2))]
    have hbd := meet_bound (a := a.1) (b := a.2) (c := b.1) (d := b.2)
    have h3 : meet a.1 a.2 b.1 b.2 ≠ 3 := fun e => hab.2 (by rw [c3 e, bk_bk])
    by_cases h4 : meet a.1 a.2 b.1 b.2 = 1
    · exact .inr ⟨h4, joinB_iff.2 (c2 h4)⟩
    · exact .inl (by omega)
end
/-! Areas. -/
theorem tot_sum : ∀ (ns : List Int) (s : Int), (∀ k, k ≤ ns.length → InR (s + sumL id (ns.take k))) → (∀ n ∈ ns, InR n) → totFrom (ns.map fun n => (hiOf n, loOf n)) (hiOf s, loOf s) = some (hiOf (s + sumL id ns), loOf (s + sumL id ns))
  | [], s, _, _ => by simp [totFrom, sumL]
  | n :: ns, s, h, hn => by
    have h1 := h 1 (by simp)
    have h0 := h 0 (Nat.zero_le _)
    have e1 : s + sumL id ((n :: ns).take 1) = s + n := by simp [sumL]
    rw [e1] at h1
    have e0 : s + sumL id ((n :: ns).take 0) = s := by simp [sumL]
    rw [e0] at h0
    obtain ⟨f1, f2, f3⟩ := fitW_of h0 (hn n List.mem_cons_self) h1
    rw [List.map_cons]
    simp only [totFrom]
    rw [if_pos f1, f2, f3, tot_sum ns (s + n) (fun k hk => ?_) (fun m hm => hn m (List.mem_cons_of_mem _ hm))]
    · have : s + sumL id (n :: ns) = s + n + sumL id ns := by simp only [sumL, id]; omega
      rw [this]
    · have := h (k + 1) (by simpa using hk)
      rw [List.take_succ_cons] at this
      have e : s + n + sumL id (ns.take k) = s + sumL id (n :: ns.take k) := by simp only [sumL, id]; omega
      rw [e]; exact this
theorem sum_areas (l : List PV) : ∀ k, k ≤ l.length → sumL id ((l.map fun x => area x.par.ring).take k) = areaS l k
  | 0, _ => rfl
  | k + 1, h => by
    have hlt : k < l.length := by omega
    rw [List.take_succ_eq_append_getElem (by rw [List.length_map]; exact hlt), sumL_append, sum_areas l k (by omega), areaS_succ (List.getElem?_eq_getElem hlt), List.getElem_map]
    simp only [sumL, id]; omega
theorem areaS_lim {l : List PV} (h : ∀ x ∈ l, NormP x.par.ring) : ∀ k, k ≤ l.length → -(k * (128 * 2305843009213693952)) ≤ areaS l k ∧ areaS l k ≤ k * (128 * 2305843009213693952)
  | 0, _ => by simp [areaS]
  | k + 1, hk => by
    have hlt : k < l.length := by omega
    have h1 := areaS_lim h k (by omega)
    have h2 := area_lim (h _ (List.getElem_mem hlt)).1
    rw [areaS_succ (List.getElem?_eq_getElem hlt)]
    omega
theorem fill_iff {o : List (Int × Int)} {l : List PV} (hl : l.length ≤ 64) (ho : NormP o) (h : ∀ x ∈ l, NormP x.par.ring) : fillB o l = true ↔ areaS l l.length = area o := by
  have hw : areasL l = (l.map fun x => area x.par.ring).map fun n => (hiOf n, loOf n) := by
    unfold areasL
    rw [List.map_map]
    refine List.map_congr_left fun x hx => ?_
    obtain ⟨a1, a2, _⟩ := arHL (h x hx).1
    rw [a1, a2]; rfl
  have hlen : (l.map fun x => area x.par.ring).length = l.length := List.length_map _
  have hlim : ∀ k, k ≤ l.length → InR (areaS l k) := fun k hk => by
    have := areaS_lim h k hk
    have hk' : (k : Int) * (128 * 2305843009213693952) ≤ 64 * (128 * 2305843009213693952) := by omega
    unfold InR; omega
  have ht := tot_sum (l.map fun x => area x.par.ring) 0 (fun k hk => by
    rw [hlen] at hk
    rw [Int.zero_add, sum_areas l k hk]; exact hlim k hk) (fun n hn => by
    obtain ⟨x, hx, rfl⟩ := List.mem_map.1 hn
    have := area_lim (h x hx).1
    unfold InR; omega)
  have hfull : sumL id (l.map fun x => area x.par.ring) = areaS l l.length := by
    have := sum_areas l l.length (Nat.le_refl _)
    rw [List.take_of_length_le (by rw [hlen]; exact Nat.le_refl _)] at this
    exact this
  have h00 : (hiOf 0, loOf 0) = ((0 : Int), (0 : Int)) := by decide
  rw [Int.zero_add, hfull, h00, ← hw] at ht
  obtain ⟨a1, a2, _⟩ := arHL ho.1
  unfold fillB tH tL
  rw [ht, a1, a2, Bool.and_eq_true, decide_eq_true_iff, decide_eq_true_iff]
  constructor
  · rintro ⟨h1, h2⟩
    simp only at h1 h2
    rw [← val_of (areaS l l.length), ← val_of (area o), h1, h2]
  · intro e
    simp only
    rw [e]
    exact ⟨rfl, rfl⟩

theorem norm_sound {r : List (Int × Int)} (h : NormP r) : Sound r := (chE_zero.1 h.1).2
theorem all_gd {o : List (Int × Int)} {l : List PV} (ho : NormP o) (h : ∀ x ∈ l, NormP x.par.ring) : ∀ e ∈ edg o ++ edgs (rings l), Gd e.1 ∧ Gd e.2 := fun e he => by
  rcases List.mem_append.1 he with he | he
  · exact edg_gd (normP_small ho).2.2 he
  · exact es_gd h e he
/-- The program's Check is the document's. -/
theorem check_same (o : List (Int × Int)) (Ao : Option Addr) (co : Nat) (l : List PV) : CheckQ o Ao co l ↔ CheckP o l := by
  have hcorn : cornL (allRV o Ao co l) (allRV o Ao co l).length = cornN o l l.length := by
    have h1 := cornL_le (rs := allRV o Ao co l) _ (Nat.le_refl _)
    rw [List.take_length, rgs_all, edgs_cons, List.length_append, edg_len] at h1
    have h2 := edgs_cornN o l l.length (Nat.le_refl _)
    rw [List.take_length] at h2
    omega
  have hbord : ∀ {k : Nat} {x : RV}, (allRV o Ao co l)[k]? = some x → x.ring = o ∨ ∃ y ∈ l, x.ring = y.par.ring := fun {k x} hx => by
    unfold allRV at hx
    cases k with
    | zero => rw [List.getElem?_cons_zero] at hx; obtain rfl := Option.some.inj hx; exact .inl rfl
    | succ k =>
      rw [List.getElem?_cons_succ, List.getElem?_map] at hx
      cases h : l[k]? with
      | none => rw [h] at hx; cases hx
      | some y =>
        rw [h] at hx
        obtain rfl := Option.some.inj hx
        exact .inr ⟨y, List.mem_of_getElem? h, rfl⟩
  constructor
  · rintro ⟨hnum, hbor, hnd, hmt, hfl, hap⟩
    obtain ⟨hno, hnl, hsz⟩ := bord_spec hbor
    have hfine : FineP o l := by
      refine ⟨fun k hk x hx => ?_, hnum.1, hnum.2.1, by rw [← hcorn]; exact hbor.2⟩
      obtain ⟨a1, a2, a3⟩ := hnum.2.2 k hk x hx
      have := cornN_mono (o := o) (l := l) (show k + 1 ≤ l.length by omega)
      exact ⟨a2, a1, a3, by have := hbor.2; rw [hcorn] at this; omega⟩
    have hF := fit_prog (norm_sound hno) (fun r hr => by obtain ⟨x, hx, rfl⟩ := List.mem_map.1 hr; exact norm_sound (hnl x hx)) (all_gd hno hnl) hnd hmt hap
    obtain ⟨t1, t2⟩ := hF.tries
    refine ⟨hfine, hno, hnl, (fill_iff hnum.2.1 hno hnl).1 hfl, fun i hi e he => ?_, fun i j hij hj a b ha hb => ?_, hF.out⟩
    · obtain rfl : (edgs (rings l))[i] = e := by rw [List.getElem?_eq_getElem hi] at he; exact Option.some.inj he
      refine ⟨fun j hj hh => ?_, (t1 i hi).2⟩
      rw [List.getElem?_eq_getElem (by omega)] at hh
      exact (t1 i hi).1 j hj (Option.some.inj hh)
    · obtain rfl : (edgs (rings l))[i] = a := by rw [List.getElem?_eq_getElem (by omega)] at ha; exact Option.some.inj ha
      obtain rfl : (edgs (rings l))[j] = b := by rw [List.getElem?_eq_getElem hj] at hb; exact Option.some.inj hb
      exact t2 i j hij hj
  · rintro ⟨hfine, hno, hnl, har, hed, hpr, hout⟩
    have hF : Fit o (rings l) := fit_of (norm_sound hno) (fun r hr => by obtain ⟨x, hx, rfl⟩ := List.mem_map.1 hr; exact norm_sound (hnl x hx))
      (fun i hi => ⟨fun j hj hh => (hed i hi _ (List.getElem?_eq_getElem hi)).1 j hj (by rw [List.getElem?_eq_getElem (by omega), hh]), (hed i hi _ (List.getElem?_eq_getElem hi)).2⟩)
      (fun i j hij hj => hpr i j hij hj _ _ (List.getElem?_eq_getElem (by omega)) (List.getElem?_eq_getElem hj)) hout
    obtain ⟨p1, p2, p3⟩ := prog_fit hF (all_gd hno hnl)
    refine ⟨⟨hfine.2.1, hfine.2.2.1, fun k hk x hx => ?_⟩, ⟨fun k x hx => ?_, by rw [hcorn]; exact hfine.2.2.2⟩, p1, p2, (fill_iff hfine.2.2.1 hno hnl).2 har, p3⟩
    · obtain ⟨a1, a2, a3, _⟩ := hfine.1 k hk x hx
      exact ⟨a2, a1, a3⟩
    · rcases hbord hx with h | ⟨y, hy, h⟩
      · rw [h]; exact hno
      · rw [h]; exact hnl y hy
theorem check_eq (o : List (Int × Int)) (Ao : Option Addr) (co : Nat) (l : List PV) : checkB o Ao co l = chkB o l := by
  rw [Bool.eq_iff_iff, checkB_iff, chkB_iff]; exact check_same o Ao co l
end Go.Proofs.YtbcmnhbpomjinaaGreat
