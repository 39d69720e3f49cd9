/- The laws' own question; Parse where it is told what the bytes are. -/
import Derived.Test.YtmjooghfghmngaaDoorJPar
import Derived.Lib.SlBytesConst
namespace Go.Proofs.YtmjooghfghmngaaDoor
open Go.RowKit Go.Shelf Go.Lib

/-- The tables of unicode/utf8 are there. -/
def Env (W : World) : Prop := Lib.Utf8Tabs 0 1 W ∧ 0 < W.heap.size ∧ 1 < W.heap.size
theorem Env.on {W W' : World} (h : Env W) (hb : Below W.heap.size W W') : Env W' :=
  ⟨tabs_on h.1 (grew_of hb none) (by simp) (by simp), by have := hb.size; have := h.2.1; omega, by have := hb.size; have := h.2.2; omega⟩

theorem parse_ok {w : World} {A : Option Addr} {c : Nat} {s : List UInt8} {x : JV} (hx : parseN s = .ok x) (hE : Env w) (hB : Lib.BytesAt w A s.length s) (hA : ∀ ad, A = some ad → ad.block < w.heap.size) (hle : s.length ≤ c) (hcap : c ≤ 9223372036854775807) :
    Calls Tryd.prog 13 #[.slice A s.length c] w fun e w' => ∃ p F, e = .returned (.tuple #[PV.val p, .int .i64 0, .int .i64 0]) ∧ Below w.heap.size w w' ∧ VAt w' F 33 p x ∧ ∀ k, F k → w.heap.size ≤ k ∧ k < w'.heap.size :=
  (Parse_any hB hA hle hcap hE.1 hE.2.1 hE.2.2).mono fun e w' ⟨hb, h⟩ => by
    rcases h with ⟨p, y, F, hr, he, hV, hF⟩ | ⟨a, e', hr, he⟩
    · rw [hx] at hr
      cases hr
      exact ⟨p, F, he, hb, hV, hF⟩
    · rw [hx] at hr; cases hr
theorem parse_no {w : World} {A : Option Addr} {c : Nat} {s : List UInt8} {a : Nat} {e' : Int} (hx : parseN s = .error (a, e')) (hE : Env w) (hB : Lib.BytesAt w A s.length s) (hA : ∀ ad, A = some ad → ad.block < w.heap.size) (hle : s.length ≤ c) (hcap : c ≤ 9223372036854775807) :
    Calls Tryd.prog 13 #[.slice A s.length c] w fun e w' => e = .returned (.tuple #[PV.val zeroPV, .int .i64 a, .int .i64 e']) ∧ Below w.heap.size w w' :=
  (Parse_any hB hA hle hcap hE.1 hE.2.1 hE.2.2).mono fun e w' ⟨hb, h⟩ => by
    rcases h with ⟨p, y, F, hr, he, hV, hF⟩ | ⟨a, e', hr, he⟩
    · rw [hx] at hr; cases hr
    · rw [hx] at hr
      cases hr
      exact ⟨he, hb⟩

def ansB : List UInt8 := [91, 49, 44, 34, 97, 34, 93]
theorem parse_ans : parseN ansB = .ok (.mk 6 noT [] [.mk 4 ⟨#[49]⟩ [] [], .mk 5 ⟨#[97]⟩ [] []]) := by kernel_rfl
theorem bytes_lit {W : World} {t : TypeId} {s : List UInt8} {cs : Array Value} {fr : Nat × Nat} (h : cs.toList = s.map fun x => (.int .u8 (x.toNat : Nat) : Value)) : Lib.BytesAt (W.alloc (Obj.cells cs t fr)) (some ⟨W.heap.size, 0, none⟩) s.length s := fun h0 => by
  refine ⟨W.heap.size, 0, rfl, fun i hi => ?_⟩
  have hc : (W.alloc (Obj.cells cs t fr)).cell? ⟨W.heap.size, i, none⟩ = cs[i]? := by unfold World.cell?; rw [heap_alloc_new]; rfl
  rw [Nat.zero_add, hc, ← Array.getElem?_toList, h]
  simp [List.getD_eq_getElem?_getD, List.getElem?_eq_getElem hi]
def ansV : Array Value := #[.int .u8 91, .int .u8 49, .int .u8 44, .int .u8 34, .int .u8 97, .int .u8 34, .int .u8 93]
theorem ans_parse {W W1 : World} (hE : Env W) (h : W1 = W.alloc (Obj.cells ansV 5 (7, 8))) : Below W.heap.size W W1 ∧
    Calls Tryd.prog 13 #[.slice (some ⟨W.heap.size, 0, none⟩) 7 7] W1 fun e w' => ∃ pt A1 n1 c1 A c, e = .returned (.tuple #[.agg #[.int .i64 6, .string pt, .slice A1 n1 c1, .slice A 2 c], .int .i64 0, .int .i64 0]) ∧ Below W1.heap.size W1 w' := by
  subst h
  have hB : Below W.heap.size W (W.alloc (Obj.cells ansV 5 (7, 8))) := (Below.refl _ W).alloc (Nat.le_refl _) _
  refine ⟨hB, (parse_ok (c := 7) parse_ans (hE.on hB) (bytes_lit (s := ansB) rfl) (fun ad e => by cases e; rw [World.size_alloc]; exact Nat.lt_succ_self _) (by decide) (by decide)).mono fun e w' ⟨p, F, he, hb, hV, _⟩ => ?_⟩
  obtain ⟨pk, pt, pkv, plv⟩ := p
  obtain ⟨hk, -, ⟨A1, c1, hkv, -⟩, A, c, hl, -⟩ := hV
  simp only at hk hl hkv
  subst hk hl hkv
  exact ⟨pt, A1, _, c1, A, c, he, hb⟩

set_option maxHeartbeats 1000000 in
set_option maxRecDepth 100000 in
theorem answers_any {W : World} (hE : Env W) : Calls Tryd.prog 12 #[] W fun e w' => e = .returned (.bool true) ∧ Below W.heap.size W w' := by
  have hcv := Lib.run_convert_bytes_const (P := Tryd.prog) W 26 5 #[.int .u8 91, .int .u8 49, .int .u8 44, .int .u8 34, .int .u8 97, .int .u8 34, .int .u8 93] 7 7 Tryd.underlying26 Tryd.underlying5
  obtain ⟨hB, hP⟩ := ans_parse hE rfl
  unfold ansV at hB hP
  have HB := Lib.hid hB
  have HP := Lib.hid hP
  clear hE hB hP
  go_enter Tryd.func12, Tryd.ntmps12
  go_wp2_with fail
  go_at_call 13
  refine HP.out.mono ?_
  rintro e' W2 ⟨pt, A1, n1, c1, A, c, rfl, hb⟩
  have HB2 := Lib.hid (HB.out.trans (hb.mono HB.out.size))
  clear hb hcv
  go_wp2_with fail
  go_ret
  exact ⟨rfl, by have h := HB2.out.alloc HB2.out.size (Obj.cells #[.int .i64 6, .string pt, .slice A1 n1 c1, .slice A 2 c] 25); exact h⟩
end Go.Proofs.YtmjooghfghmngaaDoor
