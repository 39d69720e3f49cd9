/- Parcels in memory; the document's own answers on them: Owner, All, At, In, Corner. -/
import Derived.Test.YtbcmnhbpomjinaaRefEdges
namespace Go.Proofs.Ytbcmnhbpomjinaa
open Go.RowKit

/-- A parcel: its number, its ring, its owner. -/
structure Par where
  id : Int
  ring : List (Int × Int)
  own : ByteArray
/-- A parcel as it lies in memory: where its ring is, and what room that has. -/
structure PV where
  par : Par
  A : Option Addr
  cap : Nat
def encV (x : PV) : List Value := [.int .i64 x.par.id, .slice x.A x.par.ring.length x.cap, .string x.par.own]
theorem kindV : Kind 40 encV 3 48 := Kind.mk' (z := .agg #[.int .i64 0, .slice none 0 0, .string ⟨#[]⟩]) (fun _ => rfl) (fun a u hu => by
  simp only [encV, List.mem_cons, List.not_mem_nil, or_false] at hu
  rcases hu with rfl | rfl | rfl <;> rfl) (by decide) (by kernel_rfl) rfl
/-- A slice of parcels, with their rings. -/
def Prs (w : World) (A : Option Addr) (l : List PV) : Prop := Items w w.heap.size A encV l ∧ ∀ x ∈ l, Pts w w.heap.size x.A x.par.ring ∧ NilOk x.A x.cap ∧ x.par.ring.length * 16 ≤ 140737488355328
section
variable {w w' : World} {A : Option Addr} {l : List PV}
theorem Prs.on (h : Prs w A l) (hb : Below w.heap.size w w') : Prs w' A l := ⟨h.1.on hb, fun x hx => ⟨(h.2 x hx).1.on hb, (h.2 x hx).2⟩⟩
theorem Prs.drew (h : Prs w A l) : Prs w.drew A l := h.on ⟨rfl, rfl, rfl, Nat.le_refl _, fun _ _ => rfl⟩
/-- What a load reads of the k-th parcel. -/
theorem Prs.at (h : Prs w A l) {k : Nat} (hlt : k < l.length) : ∃ ad, A = some ad ∧ ad.block < w.heap.size ∧ w.cell? (ad.add (k * 3)) = some (.int .i64 l[k].par.id) ∧ w.cell? ⟨(ad.add (k * 3)).block, (ad.add (k * 3)).off + 1, none⟩ = some (.slice l[k].A l[k].par.ring.length l[k].cap) ∧ w.cell? ⟨(ad.add (k * 3)).block, (ad.add (k * 3)).off + 2, none⟩ = some (.string l[k].par.own) := by
  obtain ⟨ad, e, hb, h0, hc⟩ := h.1.at kindV.len hlt
  exact ⟨ad, e, hb, h0 _ (by decide) rfl, hc 1 _ (by decide) (by decide) rfl, hc 2 _ (by decide) (by decide) rfl⟩
end
def rings (l : List PV) : List (List (Int × Int)) := l.map fun x => x.par.ring
theorem edgs_take {l : List PV} {k : Nat} (hk : k < l.length) : edgs (rings (l.take (k + 1))) = edgs (rings (l.take k)) ++ edg l[k].par.ring := by
  rw [List.take_succ_eq_append_getElem hk]
  unfold rings edgs
  rw [List.map_append, List.flatMap_append]
  simp only [List.map_cons, List.map_nil, List.flatMap_cons, List.flatMap_nil, List.append_nil]
theorem edgs_le (l : List PV) (k : Nat) : (edgs (rings (l.take k))).length ≤ (edgs (rings l)).length := by
  have : edgs (rings l) = edgs (rings (l.take k)) ++ edgs (rings (l.drop k)) := by
    conv => lhs; rw [← List.take_append_drop k l]
    unfold rings edgs
    rw [List.map_append, List.flatMap_append]
  rw [this, List.length_append]; omega
theorem edg_le_edgs {l : List PV} {k : Nat} (hk : k < l.length) : (edgs (rings (l.take k))).length + (edg l[k].par.ring).length ≤ (edgs (rings l)).length := by
  have := edgs_le l (k + 1)
  rw [edgs_take hk, List.length_append] at this
  exact this
set_option maxRecDepth 100000 in
set_option maxHeartbeats 2000000 in
theorem ref_all (l : List PV) (A : Option Addr) (cap : Nat) (hn : (edgs (rings l)).length ≤ 1000000) (hl : l.length ≤ 1000000) (w : World) (hr : Prs w A l) :
    Calls Try.prog 24 #[.slice A l.length cap] w fun e w' => ∃ v, e = .returned v ∧ RowI w 60 4 encG v (edgs (rings l)) w' := by
  have HR := Lib.hid hr
  have HN := Lib.hid hn
  have HR0 : RowI w 60 4 encG (.slice none 0 0) [] w := RowI.nil (Below.refl _ _)
  clear hr hn
  go_enter Try.func24, Try.ntmps24
  go_wp2_with fail
  go_loopg [3, 4] l.length (fun g v i wr => ∃ k : Nat, k ≤ l.length ∧ g = l.length - k ∧ i = .int .i64 k ∧ RowI w 60 4 encG v (edgs (rings (l.take k))) wr)
  case atStart => exact ⟨0, Nat.zero_le _, rfl, rfl, by rw [List.take_zero]; exact HR0⟩
  case round =>
    clear HR0
    obtain ⟨k, hk, hgk, rfl, HV⟩ := hrel
    have HGK := Lib.hid hgk
    clear hgk
    by_cases hlt : k < l.length
    · have hw := HR.out.on HV.1
      obtain ⟨ad, rfl, -, d0, d1, d2⟩ := hw.at hlt
      obtain ⟨hp, hnil, hsz⟩ := hw.2 l[k] (List.getElem_mem hlt)
      have hle := edg_le_edgs hlt
      have hN := HN.out
      rw [edg_len] at hle
      have HE := Lib.hid (ref_edges l[k].par.ring l[k].A l[k].cap (by omega) wr hp)
      have HT := Lib.hid (edgs_take hlt)
      have HLE : Hid ((edgs (rings (l.take k))).length + (edg l[k].par.ring).length ≤ 1000000) := by unfold Hid; rw [edg_len]; omega
      have b0 : (0 : Int) ≤ (k : Int) := by omega
      have b1 : (k : Int) < (l.length : Int) := by omega
      clear hw hp hnil hsz hle hN d0 d2
      generalize edgs (rings (l.take k)) = es at *
      generalize l[k].par.ring = ps at *
      generalize l[k].A = Ak at *
      generalize l[k].cap = ck at *
      go_wp2_with fail
      go_at_call 25
      refine HE.out.mono ?_
      rintro e w1 ⟨v, rfl, HV1⟩
      obtain ⟨A1, c1, rfl, HI, HNO⟩ := HV1.items
      have HV2 := HV.on HV1.1
      have HI2 := Lib.hid HI
      have HNO2 := Lib.hid HNO
      clear HI HNO HV1 d1 HE
      go_wp2_with (at_builtin; refine append_items kindG Try.underlying55 HV2 (edg ps) A1 c1 HI2.out HNO2.out (by have := HLE.out; unfold maxLen; omega) (by have := HLE.out; omega) rfl _ _ rfl rfl rfl ?_; rintro v9 w9 HR9)
      go_roundg (l.length - (k + 1))
      case measure => have := HGK.out; omega
      case rel => exact ⟨k + 1, by omega, rfl, by go_num, by rw [HT.out]; exact HR9⟩
    · obtain rfl : k = l.length := by omega
      rw [List.take_length] at HV
      have HK := Lib.hid HV
      clear HV
      go_wp2
      go_ret
      exact ⟨_, rfl, HK.out⟩

/-- Which texts are owners. -/
def OwnOk (s : ByteArray) : Prop := (∀ j (hj : j < s.size), 32 ≤ s[j].toNat ∧ s[j].toNat ≤ 126) ∧ s.size ≤ 32
noncomputable def owB (s : ByteArray) : Bool := @decide (OwnOk s) (Classical.propDecidable _)
theorem owB_iff {s : ByteArray} : owB s = true ↔ OwnOk s := by unfold owB; exact @decide_eq_true_iff _ (Classical.propDecidable _)
theorem owB_not {s : ByteArray} : owB s = false ↔ ¬ OwnOk s := by rw [← owB_iff, Bool.not_eq_true]
set_option maxRecDepth 100000 in
set_option maxHeartbeats 2000000 in
theorem ref_owner (s : ByteArray) (hs : s.size ≤ maxLen) (w : World) : Calls Try.prog 13 #[.string s] w fun e w' => e = .returned (.bool (owB s)) ∧ Below w.heap.size w w' := by
  have HS : Hid (s.size ≤ 9223372036854775807) := by unfold Hid; unfold maxLen at hs; omega
  clear hs
  go_enter Try.func13, Try.ntmps13
  go_wp2_with fail
  go_loopg [3] s.size (fun g i wr => ∃ k : Nat, k ≤ s.size ∧ g = s.size - k ∧ i = .int .i64 k ∧ (∀ j (hj : j < s.size), j < k → 32 ≤ s[j].toNat ∧ s[j].toNat ≤ 126) ∧ w = wr)
  case atStart => exact ⟨0, Nat.zero_le _, rfl, rfl, fun j _ hj => absurd hj (by omega), rfl⟩
  case round =>
    obtain ⟨k, hk, hgk, rfl, hno, rfl⟩ := hrel
    have HGK := Lib.hid hgk
    have HNO := Lib.hid hno
    clear hgk hno
    by_cases hlt : k < s.size
    · have b0 : (0 : Int) ≤ (k : Int) := by omega
      have b1 : (k : Int) < (s.size : Int) := by omega
      have hws : IntKind.i64.wrap ((k : Int) + 1) = (k : Int) + 1 := by have := HS.out; rw [IntKind.wrap_i64]; omega
      by_cases h1 : s[k].toNat < 32
      · have HE : Hid (owB s = false) := owB_not.2 fun h => by have := (h.1 k hlt).1; omega
        have h1' : (s[k].toNat : Int) < 32 := by omega
        clear HNO HGK
        go_wp2
        go_ret
        rw [HE.out]
        exact ⟨rfl, Below.refl _ _⟩
      · have h1' : ¬ (s[k].toNat : Int) < 32 := by omega
        by_cases h2 : 126 < s[k].toNat
        · have HE : Hid (owB s = false) := owB_not.2 fun h => by have := (h.1 k hlt).2; omega
          have h2' : (126 : Int) < (s[k].toNat : Int) := by omega
          clear HNO HGK
          go_wp2
          go_ret
          rw [HE.out]
          exact ⟨rfl, Below.refl _ _⟩
        · have h2' : ¬ (126 : Int) < (s[k].toNat : Int) := by omega
          have HN : Hid (∀ j (hj : j < s.size), j < k + 1 → 32 ≤ s[j].toNat ∧ s[j].toNat ≤ 126) := fun j hj hjk => by
            by_cases e : j = k
            · subst e; omega
            · exact HNO.out j hj (by omega)
          clear HNO
          go_wp2
          go_roundg (s.size - (k + 1))
          case measure => have := HGK.out; omega
          case rel => exact ⟨k + 1, by omega, rfl, by go_num, HN.out, rfl⟩
    · obtain rfl : k = s.size := by omega
      have HE : Hid (owB s = decide (s.size ≤ 32)) := by
        unfold Hid
        by_cases h : s.size ≤ 32
        · rw [decide_eq_true h]; exact owB_iff.2 ⟨fun j hj => HNO.out j hj hj, h⟩
        · rw [decide_eq_false h]; exact owB_not.2 fun hh => h hh.2
      clear HNO
      by_cases h : s.size ≤ 32
      · have h' : (s.size : Int) ≤ 32 := by omega
        rw [decide_eq_true h] at HE
        go_wp2
        go_ret
        rw [HE.out]
        exact ⟨by have := h'; simp, Below.refl _ _⟩
      · have h' : ¬ (s.size : Int) ≤ 32 := by omega
        rw [decide_eq_false h] at HE
        go_wp2
        go_ret
        rw [HE.out]
        exact ⟨by have := h'; simp, Below.refl _ _⟩
end Go.Proofs.Ytbcmnhbpomjinaa
