/- A region that draws its order, inside a fence (a round's too): what reads under a condition on the world may be taken first. -/
import Derived.OrdersIn
import Derived.WalkKit
import Derived.Lib.Hide
namespace Go.Proofs.YtjlnjjmomohpaaaGreat
open Go.RowKit

section
variable {F : Fence} {n : Nat} {P : Program} {ops : Array Oper} {Q : Exit → Act → World → Prop} {S : World → Prop}

def plain (ops : Array Oper) : Bool := ops.all fun o => match o.op with
  | .defer _ => false
  | _ => true
theorem plain_spec (h : plain ops = true) {i : Nat} {o : Oper} (ho : ops[i]? = some o) : ∀ c, o.op ≠ .defer c := by
 intro c e
 have := Array.all_eq_true_iff_forall_mem.1 h o (Array.mem_of_getElem? ho)
 rw [e] at this
 cases this
structure Gives (F : Fence) (P : Program) (ops : Array Oper) (S : World → Prop) (o : Oper) (v : Value) (a : Act) : Prop where
 says : (Region.wanted o (yielded ops a.tmps) = true ∧ ∀ w, S w → (execOp a.eval o).run P w = .ok (.value v) w) ∨ (Region.wanted o (yielded ops a.tmps) = false ∧ v = undef)
 mute : ∀ w f, o.about P w a.eval = some f → F.fn f
theorem Gives.like {o : Oper} {v : Value} {a a' : Act} (h : Gives F P ops S o v a) (he : execOp a'.eval o = execOp a.eval o) (hw : Region.wanted o (yielded ops a'.tmps) = Region.wanted o (yielded ops a.tmps))
  (hb : ∀ w, o.about P w a'.eval = o.about P w a.eval) : Gives F P ops S o v a' :=
 ⟨by rw [he, hw]; exact h.says, fun w f => by rw [hb]; exact h.mute w f⟩
theorem Gives.go {i : Nat} {o : Oper} {v : Value} {a : Act} (hp : plain ops = true) (hi : ops[i]? = some o) (h : Gives F P ops S o v a) {K : Act → World → Prop} {w : World} (hS : S w) (hK : K (a.put o.dst v) w) : wpOpIn F n P ops Q i K a w := by
 unfold wpOpIn
 simp only [hi]
 have hm : ∀ f, o.about P w a.eval = some f → F.fn f := fun f hf => h.mute w f hf
 rcases h.says with ⟨hw, hv⟩ | ⟨hw, rfl⟩
 ·rw [if_pos hw]
  exact ⟨hm, by rw [Oper.semAt_eq _ _ _ (plain_spec hp hi), hv w hS]; exact hK⟩
 ·rw [if_neg (by rw [hw]; exact Bool.false_ne_true)]
  exact ⟨hm, hK⟩
theorem Gives.ahead {i j : Nat} {oi oj : Oper} {v : Value} (hp : plain ops = true) (hi : ops[i]? = some oi) (hj : ops[j]? = some oj) (hs : Region.noSelect ops = true) (hap : oi.apart ops oj = true)
    (hQ : ∀ c a w, Q (.panic c) (a.put oi.dst v) w → Q (.panic c) a w) {K : Act → World → Prop} {a : Act} {w : World} (hy : Gives F P ops S oi v a)
    (h : wpOpIn F n P ops Q j K (a.put oi.dst v) w) : wpOpIn F n P ops Q j (fun a' w' => Gives F P ops S oi v a' ∧ K (a'.put oi.dst v) w') a w := by
  have hsel := Region.noSelect_spec hs
  obtain ⟨h1, h2, h3⟩ := Oper.apart_spec hap
  have stay : ∀ (a : Act), Gives F P ops S oi v a → ∀ u, Gives F P ops S oi v (a.put oj.dst u) := fun a hy u =>
    hy.like (execOp_put oi (fun cs b => hsel i oi cs b hi) a oj.dst u h3) (wanted_put oi a oj.dst u h3) (fun w => about_put oi w a oj.dst u h3)
  have stayD : ∀ d, Gives F P ops S oi v { a with defers := d :: a.defers } := fun d => hy.like rfl rfl (fun _ => rfl)
  unfold wpOpIn at h ⊢
  simp only [hj] at h ⊢
  rw [wanted_put oj a oi.dst v h1, about_put oj w a oi.dst v h1] at h
  by_cases hw : Region.wanted oj (yielded ops a.tmps) = true
  · rw [if_pos hw] at h ⊢
    unfold Oper.wpIn at *
    rw [about_put oj w a oi.dst v h1, Oper.semAt_eq _ _ _ (plain_spec hp hj), execOp_put oj (fun cs b => hsel j oj cs b hj) a oi.dst v h1] at h
    rw [Oper.semAt_eq _ _ _ (plain_spec hp hj)]
    refine ⟨h.1, ?_⟩
    have h := h.2
    generalize (execOp a.eval oj).run P w = r at *
    have back : ∀ u, (a.put oi.dst v).put oj.dst u = (a.put oj.dst u).put oi.dst v := fun u => Act.put_comm a v u h2
    match r, h with
    | .ok (.value u) w', h => exact ⟨stay a hy u, (back u) ▸ h⟩
    | .ok .skip w', h => exact ⟨stay a hy _, (back undef) ▸ h⟩
    | .ok (.defer d) w', h =>
      refine ⟨stay _ (stayD d) _, ?_⟩
      show K (Act.put (Act.put _ _ _) _ _) _
      rw [← Act.put_comm _ v undef h2, ← Act.put_defers]
      exact h
    | .ok (.enter f args) w', h =>
      refine ⟨h.1, CallsIn.mono h.2 fun e w'' he => ?_⟩
      match e, he with
      | .returned u, he => exact ⟨stay a hy u, (back u) ▸ he⟩
      | .panicked c, he => exact hQ _ _ _ he
      | .outgrown, he => exact he
    | .ok (.row row args) w', h => exact ⟨h.1, RowsIn.mono h.2 fun u w'' he => ⟨stay a hy u, (back u) ▸ he⟩⟩
    | .ok (.round l f tmps assign body) w', h =>
      refine ⟨h.1, RoundIn.mono h.2 fun e w'' he => ?_⟩
      match e, he with
      | .returned u, he => exact ⟨stay a hy u, (back u) ▸ he⟩
      | .panicked c, he => exact hQ _ _ _ he
      | .outgrown, he => exact he
    | .halt (.panic u) w', h => exact hQ _ _ _ h
  · rw [if_neg hw] at h ⊢
    exact ⟨h.1, stay a hy _, (Act.put_comm a v undef h2) ▸ h.2⟩

def waits (ops : Array Oper) : Nat → Nat → Nat → Bool
 |0, _, _ => false
 |k + 1, j, i => match ops[j]? with
  |none => false
  |some o => o.after.any fun e => Region.binds .any e && (e.on == i || waits ops k e.on i)
def Closed (ops : Array Oper) (done : Array Bool) : Prop := ∀ (m : Nat) (o : Oper), done.getD m false = true → ops[m]? = some o → ∀ e ∈ o.after, Region.binds .any e = true → done.getD e.on false = true
theorem getD_size {done : Array Bool} {i : Nat} (h : done.getD i true = false) : i < done.size := by
 by_cases h' : i < done.size
 ·exact h'
 ·simp [Array.getElem?_eq_none (Nat.le_of_not_lt h')] at h
theorem Closed.set {done : Array Bool} {i : Nat} (h : Closed ops done) (hi : i ∈ Region.ready .any ops done) : Closed ops (done.setIfInBounds i true) := by
 intro m o hm ho e he hb
 obtain ⟨-, oi, hoi, hall⟩ := mem_ready.1 hi
 by_cases e' : i = m
 ·subst e'
  rw [hoi] at ho
  cases ho
  exact getD_set_true (hall e he hb)
 ·rw [getD_set_ne false e'] at hm
  exact getD_set_true (h m o hm ho e he hb)
theorem Closed.start (ops : Array Oper) (n : Nat) : Closed ops (Array.replicate n false) := by
 intro m o hm
 rw [Array.getD_eq_getD_getElem?, Array.getElem?_replicate] at hm
 split at hm <;> cases hm
theorem Closed.waited {done : Array Bool} (h : Closed ops done) {i : Nat} : ∀ (k j : Nat) (o : Oper), ops[j]? = some o → (∀ e ∈ o.after, Region.binds .any e = true → done.getD e.on false = true) → waits ops k j i = true → done.getD i false = true
 |0, _, _, _, _, hw => by cases hw
 |k + 1, j, o, ho, hall, hw => by
  unfold waits at hw
  simp only [ho] at hw
  rw [← Array.any_toList, List.any_eq_true] at hw
  obtain ⟨e, he, hb⟩ := hw
  replace he := Array.mem_toList_iff.1 he
  rw [Bool.and_eq_true, Bool.or_eq_true] at hb
  rcases hb.2 with h1 | h1
  ·have := hall e he hb.1
   rwa [eq_of_beq h1] at this
  ·match ho' : ops[e.on]? with
   |none =>
    match k, h1 with
    |k + 1, h1 =>
     unfold waits at h1
     rw [ho'] at h1
     cases h1
   |some o' => exact Closed.waited h k e.on o' ho' (fun e2 he2 hb2 => h e.on o' (hall e he hb.1) ho' e2 he2 hb2) h1
def late (ops : Array Oper) (X : List Nat) (done : Array Bool) (i : Nat) : Bool := X.all fun j => done.getD j false || waits ops ops.size j i

def Drawn (F : Fence) (n : Nat) (P : Program) (ops : Array Oper) (Q : Exit → Act → World → Prop) (S : World → Prop) (X : List Nat) : Nat → Array Bool → Act → World → Prop
 |0, done, a, w => Region.ready .any ops done = [] ∧ Q .normal a w
 |k + 1, done, a, w => (Region.ready .any ops done = [] → Q .normal a w) ∧ ∀ i ∈ Region.ready .any ops done, wpOpIn F n P ops Q i (fun a' w' => (i ∉ X → S w') ∧ Drawn F n P ops Q S X k (done.setIfInBounds i true) a' w') a w
variable {X : List Nat}
theorem Drawn.any : ∀ (k : Nat) (done : Array Bool) (a : Act) (w : World), Drawn F n P ops Q S X k done a w → wpAnyIn F n P .any ops Q k done a w
 |0, _, _, _, h => h
 |k + 1, _, _, _, h => ⟨h.1, fun i hi => wpOpIn_mono (fun a' w' h' => Drawn.any k _ a' w' h'.2) (h.2 i hi)⟩
structure Draws (F : Fence) (n : Nat) (P : Program) (ops : Array Oper) (Q : Exit → Act → World → Prop) (S : World → Prop) (X : List Nat) (k : Nat) (done : Array Bool) (a : Act) (w : World) : Prop where
 goes : Closed ops done → Drawn F n P ops Q S X k done a w
theorem Draws.start {id : Nat} {a : Act} {w : World} (hm : P.follows .mixedOrders = true) (h : Draws F n P ops Q S X ops.size (Array.replicate ops.size false) a w.drew) : (Code.region id ops true).wpIn F n P Q a w :=
 wpIn_region_any hm (Drawn.any _ _ _ _ (h.goes (Closed.start _ _)))
theorem Draws.done {done : Array Bool} {a : Act} {w : World} (hr : Region.ready .any ops done = []) (h : Q .normal a w) : ∀ k, Draws F n P ops Q S X k done a w
 |0 => ⟨fun _ => ⟨hr, h⟩⟩
 |_ + 1 => ⟨fun _ => ⟨fun _ => h, fun i hi => by rw [hr] at hi; cases hi⟩⟩
theorem Drawn.first {i : Nat} {oi : Oper} {v : Value} (hp : plain ops = true) (hi : ops[i]? = some oi) (hs : Region.noSelect ops = true) (hQ : ∀ c a w, Q (.panic c) (a.put oi.dst v) w → Q (.panic c) a w) :
  ∀ (k : Nat) (done : Array Bool) (a : Act) (w : World), Closed ops done → (∀ j ∈ X, done.getD j false = true ∨ waits ops ops.size j i = true) →
   (∀ j oj, ops[j]? = some oj → j ≠ i → done.getD j true = false → (∀ e ∈ oj.after, Region.binds .any e = true → e.on ≠ i) → oi.apart ops oj = true) →
   i ∈ Region.ready .any ops done → Gives F P ops S oi v a → S w →
   Drawn F n P ops Q S X k (done.setIfInBounds i true) (a.put oi.dst v) w → Drawn F n P ops Q S X (k + 1) done a w
 |k, done, a, w, hc, hX, free, hr, hy, hS, H => by
  refine ⟨fun h => (by rw [h] at hr; cases hr), fun j hj => ?_⟩
  by_cases hji : j = i
  ·subst hji; exact hy.go hp hi hS ⟨fun _ => hS, H⟩
  ·match k with
   |0 =>
    have := ready_mono hj hji
    rw [H.1] at this
    cases this
   |k + 1 =>
    obtain ⟨hun, oj, hoj, hall⟩ := mem_ready.1 hj
    have hin := getD_size (mem_ready.1 hr).1
    have h0 := (mem_ready.1 hr).1
    have h0' : done.getD i false = false := by simp [hin] at h0 ⊢; exact h0
    have away : ∀ e ∈ oj.after, Region.binds .any e = true → e.on ≠ i := fun e he hb heq => by
     have h1 := hall e he hb
     rw [heq, h0'] at h1
     cases h1
    have hjX : j ∉ X := fun hx => by
     rcases hX j hx with h1 | h1
     ·have hjn := getD_size hun
      simp [hjn] at hun h1
      rw [hun] at h1; cases h1
     ·have := hc.waited ops.size j oj hoj hall h1
      rw [h0'] at this; cases this
    refine wpOpIn_mono (fun a' w' h3 => ⟨fun _ => h3.2.1 hjX, ?_⟩) (hy.ahead hp hi hoj hs (free j oj hoj hji hun away) hQ (H.2 j (ready_mono hj hji)))
    refine Drawn.first hp hi hs hQ k (done.setIfInBounds j true) a' w' (hc.set hj) (fun m hm => (hX m hm).imp_left getD_set_true) (fun m om hm hmi hum hno => ?_) (ready_mono hr (Ne.symm hji)) h3.1 (h3.2.1 hjX) ?_
    ·refine free m om hm hmi ?_ hno
     by_cases e : j = m
     ·exact e ▸ hun
     ·rwa [getD_set_ne true e] at hum
    ·rw [Array.setIfInBounds_comm _ _ hji]
     exact h3.2.2
theorem late_spec {done : Array Bool} {i : Nat} (h : late ops X done i = true) : ∀ j ∈ X, done.getD j false = true ∨ waits ops ops.size j i = true := fun j hj => by
 have := List.all_eq_true.1 h j hj
 rwa [Bool.or_eq_true] at this
theorem Draws.take {i : Nat} {oi : Oper} {v : Value} {k : Nat} {done : Array Bool} {a : Act} {w : World} (hr : (Region.ready .any ops done).contains i = true) (hi : ops[i]? = some oi)
  (hw : Region.wanted oi (yielded ops a.tmps) = true) (hm : ∀ w, oi.about P w a.eval = none) (hf : Region.free .any ops done i = true) (hs : Region.noSelect ops = true) (hp : plain ops = true) (hX : late ops X done i = true)
  (hQ : ∀ c a w, Q (.panic c) (a.put oi.dst v) w → Q (.panic c) a w) (hS : S w) (hy : ∀ w, S w → (execOp a.eval oi).run P w = .ok (.value v) w)
  (h : Draws F n P ops Q S X k (done.setIfInBounds i true) (a.put oi.dst v) w) : Draws F n P ops Q S X (k + 1) done a w :=
 ⟨fun hc => Drawn.first hp hi hs hQ k done a w hc (late_spec hX) (Region.free_spec hi hf) (by simpa using hr) ⟨.inl ⟨hw, hy⟩, fun w f h => by rw [hm w] at h; cases h⟩ hS (h.goes (hc.set (by simpa using hr)))⟩
theorem Draws.pass {i : Nat} {oi : Oper} {k : Nat} {done : Array Bool} {a : Act} {w : World} (hr : (Region.ready .any ops done).contains i = true) (hi : ops[i]? = some oi)
  (hw : Region.wanted oi (yielded ops a.tmps) = false) (hm : ∀ f, F.fn f) (hf : Region.free .any ops done i = true) (hs : Region.noSelect ops = true) (hp : plain ops = true) (hX : late ops X done i = true)
  (hQ : ∀ c a w, Q (.panic c) (a.put oi.dst undef) w → Q (.panic c) a w) (hS : S w)
  (h : Draws F n P ops Q S X k (done.setIfInBounds i true) (a.put oi.dst undef) w) : Draws F n P ops Q S X (k + 1) done a w :=
 ⟨fun hc => Drawn.first hp hi hs hQ k done a w hc (late_spec hX) (Region.free_spec hi hf) (by simpa using hr) ⟨.inr ⟨hw, rfl⟩, fun _ f _ => hm f⟩ hS (h.goes (hc.set (by simpa using hr)))⟩
theorem Draws.one {i : Nat} {o : Oper} {k : Nat} {done : Array Bool} {a : Act} {w : World} (hr : Region.ready .any ops done = [i]) (hi : ops[i]? = some o) (hw : Region.wanted o (yielded ops a.tmps) = true)
  (h : ∀ K : Act → World → Prop, Hid (∀ a' w', (i ∉ X → S w') → Draws F n P ops Q S X k (done.setIfInBounds i true) a' w' → K a' w') → o.wpIn F n P a w K Q) : Draws F n P ops Q S X (k + 1) done a w := by
 refine ⟨fun hc => ⟨fun h0 => (by rw [hr] at h0; cases h0), fun j hj => ?_⟩⟩
 have hc' := hc.set hj
 rw [hr] at hj
 obtain rfl := List.mem_singleton.1 hj
 unfold wpOpIn
 simp only [hi]
 rw [if_pos hw]
 exact h _ (Lib.hid fun a' w' h1 h2 => ⟨h1, h2.goes hc'⟩)
end
end Go.Proofs.YtjlnjjmomohpaaaGreat
