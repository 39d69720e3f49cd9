/- Find, Corner and Left of a plan of the call's own; how an edge comes in. -/
import Derived.Test.YtbcmnhbpomjinaaGreatFind
import Derived.Test.YtbcmnhbpomjinaaGreatCorn
import Derived.Test.YtbcmnhbpomjinaaGreatPlanB
import Derived.Test.YtbcmnhbpomjinaaGreatRefSame
namespace Go.Proofs.YtbcmnhbpomjinaaGreat
open Go.RowKit

section
variable {w : World} {o : List (Int × Int)} {A1 : Option Addr} {c1 : Nat} {l l' : List PV} {Ap1 : Option Addr} {cp1 : Nat}
theorem owned_left (e : (Int × Int) × (Int × Int)) (he : OkE e) (hl : l.length ≤ 1000000) (ho : o.length ≤ 8796093022208) (hown : ∀ x ∈ l, x.par.own.size ≤ maxLen) (hm : l'.map PV.par = l.map PV.par) (h : PlanAt w o A1 c1 l' Ap1 cp1) :
    Calls Tryz.prog 19 #[.agg #[.slice A1 o.length c1, .slice Ap1 l.length cp1], .agg #[.int .i64 e.1.1, .int .i64 e.1.2, .int .i64 e.2.1, .int .i64 e.2.2]] w fun e' w' => e' = .returned (.tuple #[.int .i64 (lfV o l e), .int .i64 (lfE o l e)]) ∧ Below w.heap.size w w' := by
  have := Left_any o A1 c1 l' Ap1 cp1 e (by rw [par_len hm]; exact hl) ho (own_par hm hown) he w h
  rw [par_len hm, (lf_par hm e).1, (lf_par hm e).2] at this
  exact this
theorem owned_corner (p : Int × Int) (hl : l.length ≤ 1000000) (ho : o.length ≤ 8796093022208) (hown : ∀ x ∈ l, x.par.own.size ≤ maxLen) (hm : l'.map PV.par = l.map PV.par) (h : PlanAt w o A1 c1 l' Ap1 cp1) :
    Calls Tryz.prog 18 #[.agg #[.slice A1 o.length c1, .slice Ap1 l.length cp1], .agg #[.int .i64 p.1, .int .i64 p.2]] w fun e' w' => e' = .returned (.tuple #[.bool (cnV o l p), .int .i64 (cnE o l p)]) ∧ Below w.heap.size w w' := by
  have := Corner_any o A1 c1 l' Ap1 cp1 p (by rw [par_len hm]; exact hl) ho (own_par hm hown) w h
  rw [par_len hm, (cn_par hm p).1, (cn_par hm p).2] at this
  exact this
theorem owned_find (id : Int) (hl : l.length ≤ 1000000) (ho : o.length ≤ 8796093022208) (hown : ∀ x ∈ l, x.par.own.size ≤ maxLen) (hm : l'.map PV.par = l.map PV.par) (h : PlanAt w o A1 c1 l' Ap1 cp1) :
    Calls Tryz.prog 16 #[.agg #[.slice A1 o.length c1, .slice Ap1 l.length cp1], .int .i64 id] w fun e' w' => FoundAt w w' o l id e' := by
  have := Find_any o A1 c1 l' Ap1 cp1 id (by rw [par_len hm]; exact hl) ho (own_par hm hown) w h
  rw [par_len hm] at this
  refine this.mono ?_
  rintro e' w' ⟨hb, h1⟩
  refine ⟨hb, ?_⟩
  rw [chkB_par o hm] at h1
  have hmem : ∀ {a b : List PV}, a.map PV.par = b.map PV.par → ∀ x ∈ a, ∃ y ∈ b, y.par = x.par := fun {a b} hab x hx => by
    have : x.par ∈ b.map PV.par := by rw [← hab]; exact List.mem_map.2 ⟨x, hx, rfl⟩
    obtain ⟨y, hy, e⟩ := List.mem_map.1 this
    exact ⟨y, hy, e⟩
  rcases h1 with h1 | ⟨h1, h2, h3⟩ | ⟨h1, x, hx, h2, A, c, h3, h4, h5, h6⟩
  · exact .inl h1
  · refine .inr (.inl ⟨h1, fun y hy => ?_, h3⟩)
    obtain ⟨z, hz, e⟩ := hmem hm.symm y hy
    rw [← e]; exact h2 z hz
  · obtain ⟨y, hy, e⟩ := hmem hm x hx
    refine .inr (.inr ⟨h1, y, hy, by rw [e]; exact h2, A, c, ?_, ?_, h5, ?_⟩)
    · rw [e]; exact h3
    · rw [e]; exact h4
    · rw [e]; exact h6
end
end Go.Proofs.YtbcmnhbpomjinaaGreat

/- What the document says of an edge of a sound plan. -/
namespace Go.Proofs.YtbcmnhbpomjinaaGreat

theorem who_ring {o : List (Int × Int)} {l : List PV} (h : CheckP o l) {x : PV} (hx : x ∈ l) {e : (Int × Int) × (Int × Int)} (he : e ∈ edg x.par.ring) : whoI l e l.length = x.par.id :=
  whoI_one hx he fun y hy h2 => by rw [edgs_one (check_fit h).once hy hx h2 he]
theorem who_any {o : List (Int × Int)} {l : List PV} (h : CheckP o l) (e : (Int × Int) × (Int × Int)) : (whoI l e l.length = 0 ∧ e ∉ edgs (rings l)) ∨ ∃ x ∈ l, e ∈ edg x.par.ring ∧ whoI l e l.length = x.par.id := by
  by_cases he : e ∈ edgs (rings l)
  · obtain ⟨r, hr, h1⟩ := mem_edgs.1 he
    obtain ⟨x, hx, rfl⟩ := List.mem_map.1 hr
    exact .inr ⟨x, hx, h1, who_ring h hx h1⟩
  · refine .inl ⟨whoI_none fun x hx h1 => he ?_, he⟩
    rw [List.take_length] at hx
    exact mem_edgs.2 ⟨_, List.mem_map.2 ⟨x, hx, rfl⟩, h1⟩
/-- An edge of a parcel: whose it is, whose the other way round; its first corner. -/
theorem edge_says {o : List (Int × Int)} {l : List PV} (h : CheckP o l) {x : PV} (hx : x ∈ l) {e : (Int × Int) × (Int × Int)} (he : e ∈ edg x.par.ring) :
    lfV o l e = x.par.id ∧ lfE o l e = 0 ∧ cnV o l e.1 = true ∧ cnE o l e.1 = 0 ∧
    ((e ∈ edg o ∧ lfV o l (bk e) = 0 ∧ lfE o l (bk e) = 5) ∨ (e ∉ edg o ∧ ∃ n : Int, 1 ≤ n ∧ n ≠ x.par.id ∧ lfV o l (bk e) = n ∧ lfE o l (bk e) = 0)) := by
  have hb := chkB_iff.2 h
  have h1 := lf_some hb (who_ring h hx he) (check_pos h hx).1
  have hgd := edg_gd (check_pts h x hx) he
  have hmem : e.1 ∈ x.par.ring := by
    obtain ⟨i, hi, rfl⟩ := mem_edg.1 he
    rw [nx_lt hi]; exact List.getElem_mem hi
  have h2 := cn_good hb (gd_iff.2 hgd.1)
  have h3 : cornB l e.1 = true := cornB_iff.2 ⟨x, hx, hmem⟩
  rw [h3] at h2
  have hf := check_fit h
  have hel : e ∈ edgs (rings l) := mem_edgs.2 ⟨_, List.mem_map.2 ⟨x, hx, rfl⟩, he⟩
  refine ⟨h1.1, h1.2, h2.1, h2.2, ?_⟩
  rcases who_any h (bk e) with ⟨w0, hn⟩ | ⟨y, hy, hye, w1⟩
  · have := lf_none hb w0
    exact .inl ⟨(hf.both e hel).2 hn, this.1, this.2⟩
  · have hp := (check_pos h hy).1
    have := lf_some hb w1 hp
    refine .inr ⟨fun ho => (hf.both e hel).1 ho (mem_edgs.2 ⟨_, List.mem_map.2 ⟨y, hy, rfl⟩, hye⟩), y.par.id, hp, fun hid => ?_, this.1, this.2⟩
    have := check_one h hy hx hid
    subst this
    exact edg_way (norm_sound (check_ring h hx)) he hye
end Go.Proofs.YtbcmnhbpomjinaaGreat

/- What the document says of numbers, points and edges of a plan, against what the program answers. -/
namespace Go.Proofs.YtbcmnhbpomjinaaGreat

/-- What Left answers, by the document's search. -/
theorem left_says {o : List (Int × Int)} {l : List PV} (h : CheckP o l) (e : (Int × Int) × (Int × Int)) : lfV o l e = whoI l e l.length ∧ ((whoI l e l.length = 0 ∧ lfE o l e = 5) ∨ (1 ≤ whoI l e l.length ∧ lfE o l e = 0)) := by
  have hb := chkB_iff.2 h
  rcases who_any h e with ⟨w0, _⟩ | ⟨x, hx, _, w1⟩
  · have := lf_none hb w0
    exact ⟨this.1.trans w0.symm, .inl ⟨w0, this.2⟩⟩
  · have hp := (check_pos h hx).1
    have := lf_some hb w1 hp
    exact ⟨this.1.trans w1.symm, .inr ⟨by omega, this.2⟩⟩
/-- The first place of a number is the place of the parcel found. -/
theorem found_at {o : List (Int × Int)} {l : List PV} (h : CheckP o l) {id n : Int} (hp : Plc (l.map fun x => x.par.id) id n) {x : PV} (hx : x ∈ l) (hid : x.par.id = id) : ∃ (k : Nat) (hk : k < l.length), n = k ∧ l[k] = x := by
  rcases hp with ⟨_, hn⟩ | ⟨k, rfl, hk, _⟩
  · exact absurd (List.mem_map.2 ⟨x, hx, hid⟩) hn
  · rw [List.getElem?_map] at hk
    cases hy : l[k]? with
    | none => rw [hy] at hk; cases hk
    | some y =>
      rw [hy] at hk
      obtain ⟨hkl, e⟩ := List.getElem?_eq_some_iff.1 hy
      refine ⟨k, hkl, rfl, ?_⟩
      have : y.par.id = id := Option.some.inj hk
      rw [e]
      exact check_one h (e ▸ List.getElem_mem hkl) hx (this.trans hid.symm)
theorem found_no {l : List PV} {id n : Int} (hp : Plc (l.map fun x => x.par.id) id n) (hno : ∀ x ∈ l, x.par.id ≠ id) : n = -1 := by
  rcases hp with ⟨rfl, _⟩ | ⟨k, rfl, hk, _⟩
  · rfl
  · rw [List.getElem?_map] at hk
    cases hy : l[k]? with
    | none => rw [hy] at hk; cases hk
    | some y =>
      rw [hy] at hk
      exact absurd (Option.some.inj hk) (hno y (List.mem_of_getElem? hy))
end Go.Proofs.YtbcmnhbpomjinaaGreat
