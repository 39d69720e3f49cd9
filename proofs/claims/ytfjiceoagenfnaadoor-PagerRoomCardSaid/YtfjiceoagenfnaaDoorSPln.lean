/- Layer sector, plain: what was written, in order; what a disk of that state answers, and how it goes on. -/
namespace Go.Proofs.YtfjiceoagenfnaaDoor

/-- A sector of noughts; a write: where, and what. -/
def zer : List UInt8 := List.replicate 512 0
abbrev Wr := Nat × List UInt8
/-- What was written last of a sector. -/
def lastW (l : List Wr) (i : Nat) : Option (List UInt8) := l.foldl (fun o w => if w.1 = i then some w.2 else o) none
def nowL (l : List Wr) (i : Nat) : List UInt8 := (lastW l i).getD zer
theorem lastW_from (i : Nat) : ∀ (l : List Wr) (o : Option (List UInt8)), l.foldl (fun o w => if w.1 = i then some w.2 else o) o = (lastW l i).or o
  | [], o => by simp [lastW]
  | w :: l, o => by
    show l.foldl _ (if w.1 = i then some w.2 else o) = (l.foldl _ (if w.1 = i then some w.2 else none)).or o
    rw [lastW_from i l, lastW_from i l]
    split <;> cases lastW l i <;> rfl
theorem lastW_nil (i : Nat) : lastW [] i = none := rfl
theorem lastW_append (l m : List Wr) (i : Nat) : lastW (l ++ m) i = (lastW m i).or (lastW l i) := by
  show (l ++ m).foldl _ none = _
  rw [List.foldl_append, lastW_from]; rfl
theorem lastW_one (w : Wr) (i : Nat) : lastW [w] i = if w.1 = i then some w.2 else none := rfl
theorem lastW_push (l : List Wr) (w : Wr) (i : Nat) : lastW (l ++ [w]) i = if w.1 = i then some w.2 else lastW l i := by
  rw [lastW_append, lastW_one]; split <;> rfl
theorem nowL_push (l : List Wr) (w : Wr) (i : Nat) : nowL (l ++ [w]) i = if w.1 = i then w.2 else nowL l i := by
  unfold nowL; rw [lastW_push]; split <;> rfl
theorem nowL_append (l m : List Wr) (i : Nat) : nowL (l ++ m) i = (lastW m i).getD (nowL l i) := by
  unfold nowL; rw [lastW_append]; cases lastW m i <;> rfl
theorem lastW_cons (w : Wr) (l : List Wr) (i : Nat) : lastW (w :: l) i = (lastW l i).or (if w.1 = i then some w.2 else none) := lastW_append [w] l i
theorem lastW_mem : ∀ (l : List Wr) {i : Nat} {s : List UInt8}, lastW l i = some s → (i, s) ∈ l
  | [], _, _, h => by cases h
  | w :: l, i, s, h => by
    rw [lastW_cons] at h
    cases e : lastW l i with
    | some t =>
      rw [e] at h
      injection h with h
      subst h
      exact List.mem_cons_of_mem _ (lastW_mem l e)
    | none =>
      rw [e, Option.none_or] at h
      split at h
      · rename_i e2; subst e2; injection h with h; subst h; exact List.mem_cons_self ..
      · cases h
theorem nowL_len {l : List Wr} (h : ∀ w ∈ l, w.2.length = 512) (i : Nat) : (nowL l i).length = 512 := by
  unfold nowL
  cases e : lastW l i
  · exact List.length_replicate ..
  · exact h _ (lastW_mem l e)

/-- A disk: how many sectors, what was written, how much of that is sure, how many writes and barriers are left (0: no limit), is the power gone? -/
structure DS where
  sz : Nat
  log : List Wr
  n : Nat
  left : Nat
  out : Bool
def DS.ok (st : DS) : Prop := st.n ≤ st.log.length ∧ (∀ w ∈ st.log, w.1 < st.sz ∧ w.2.length = 512) ∧ (st.left : Int) ≤ 9223372036854775807 ∧ st.sz ≤ 65536
def DS.un (st : DS) : List Wr := st.log.drop st.n
def DS.sure (st : DS) : List Wr := st.log.take st.n
def badAt (st : DS) (i : Int) : Prop := i < 0 ∨ (st.sz : Int) ≤ i
instance (st : DS) (i : Int) : Decidable (badAt st i) := by unfold badAt; infer_instance
/-- The error of a disk without power. -/
def dn (b : Bool) : Int := if b = true then 15 else 0
/-- A write or a barrier would be done. -/
def burn (st : DS) : DS := if st.left = 0 then st else { st with left := st.left - 1, out := st.out || decide (st.left = 1) }
def writeS (st : DS) (i : Int) (s : List UInt8) : DS := if st.out = true then st else if badAt st i ∨ s.length ≠ 512 then st else if (burn st).out = true then burn st else { burn st with log := st.log ++ [(i.toNat, s)] }
def writeE (st : DS) (i : Int) (s : List UInt8) : Int := if st.out = true then 15 else if badAt st i ∨ s.length ≠ 512 then 1 else if (burn st).out = true then 15 else 0
def barrS (st : DS) : DS := if st.out = true then st else if (burn st).out = true then burn st else { burn st with n := st.log.length }
def barrE (st : DS) : Int := if st.out = true then 15 else if (burn st).out = true then 15 else 0
def readE (st : DS) (i : Int) : Int := if st.out = true then 15 else if badAt st i then 1 else 0
def readS (st : DS) (i : Int) : List UInt8 := if readE st i = 0 then nowL st.log i.toNat else []
def limS (st : DS) (n : Int) : DS := if n < 0 then st else { st with left := n.toNat }
def limE (n : Int) : Int := if n < 0 then 1 else 0
/-- The writes that last, counted from k on. -/
def keepM (mask : Nat) : Nat → List Wr → List Wr
  | _, [] => []
  | k, w :: l => if mask.testBit (k % 64) then w :: keepM mask (k + 1) l else keepM mask (k + 1) l
def crashS (st : DS) (mask : Nat) : DS := { st with log := st.sure ++ keepM mask 0 st.un, n := (st.sure ++ keepM mask 0 st.un).length, left := 0, out := false }
end Go.Proofs.YtfjiceoagenfnaaDoor
