/- A hexadecimal digit among twenty-two. -/
import Derived.Test.YtmjooghfghmngaaDoorJChar
import Derived.LoopTactic
import Derived.WalkMore
import Derived.Laws.RangeString
import Derived.Laws.RangeAny
import Derived.Laws.Runes
namespace Go.Proofs.YtmjooghfghmngaaDoor
open Go.RowKit Go.Shelf Go.Lib

def hexB : List UInt8 := [48, 49, 50, 51, 52, 53, 54, 55, 56, 57, 97, 98, 99, 100, 101, 102, 65, 66, 67, 68, 69, 70]
def hexS : ByteArray := ⟨#[48, 49, 50, 51, 52, 53, 54, 55, 56, 57, 97, 98, 99, 100, 101, 102, 65, 66, 67, 68, 69, 70]⟩
theorem low_of {s : ByteArray} (h : ∀ c ∈ s.data.toList, c.toNat < 128) : ∀ pos (hp : pos < s.size), (s[pos]'hp).toNat < 128 := by
  intro pos hp
  apply h
  have : s[pos]'hp = s.data[pos]'hp := rfl
  rw [this]
  simp
theorem hexS_low : ∀ pos (h : pos < hexS.size), (hexS[pos]'h).toNat < 128 := low_of (by decide)

set_option maxRecDepth 1000000 in
set_option maxHeartbeats 1000000 in
theorem index_err (w : World) :
    Calls Tryd.prog 90 #[.string hexS, .int .i32 65533] w fun e w' => e = .returned (.int .i64 (-1)) ∧ Below w.heap.size w w' := by
  have hz : hexS.size = 22 := rfl
  have HL := Lib.hid hexS_low
  have HZ := Lib.hid hz
  clear hz
  generalize hexS = q at *
  go_enter Tryd.func90, Tryd.ntmps90
  go_wp2_with fail
  go_loopw [] (fun wr => ∃ pos : Nat, wr = w.iter q pos) (fun wr => q.size - wr.iterPos w.heap.size)
  case atStart => exact ⟨0, rfl⟩
  case round =>
    obtain ⟨pos, rfl⟩ := hrel
    by_cases hp : pos < q.size
    · have hlow := HL.out pos hp
      have hne : ((q[pos].toNat : Int) == 65533) = false := by
        rw [beq_eq_false_iff_ne]; omega
      have hnx : ∀ ty, (Instr.next (.pointer (some ⟨w.heap.size, 0, none⟩)) true ty).run Tryd.prog (w.iter q pos) = _ := fun ty => run_next_ascii w q pos ty hp hlow
      go_wp2_with fail
      go_roundw
      case rel => exact ⟨pos + 1, rfl⟩
      case measure =>
        simp
        omega
    · have hnx : ∀ ty, (Instr.next (.pointer (some ⟨w.heap.size, 0, none⟩)) true ty).run Tryd.prog (w.iter q pos) = _ := fun ty => run_next_end w q pos ty hp
      go_wp2_with fail
      go_ret
      exact ⟨rfl, (Below.refl _ w).alloc (Nat.le_refl _) _⟩

theorem enc_high (r : Int) (h : 128 ≤ r) : ∃ R, Utf8.encode r = R ∧ 2 ≤ R.size ∧ R.size ≤ 4 ∧ ∀ c ∈ R.data.toList, 128 ≤ c.toNat := by
  refine ⟨_, rfl, ?_⟩
  unfold Utf8.encode
  simp only
  obtain ⟨c, hc⟩ : ∃ c, (if Utf8.valid r = true then r.toNat else Utf8.runeError) = c := ⟨_, rfl⟩
  have h1 : 128 ≤ c ∧ c ≤ 1114111 := by
    rw [← hc]
    split
    · rename_i hv
      simp only [Utf8.valid, Bool.or_eq_true, Bool.and_eq_true, decide_eq_true_eq] at hv
      omega
    · decide
  rw [hc]
  rw [if_neg (by omega)]
  split
  · refine ⟨by simp [ByteArray.size], by simp [ByteArray.size], ?_⟩
    intro x hx
    simp only [List.mem_cons, List.not_mem_nil, or_false] at hx
    rcases hx with rfl | rfl <;> simp <;> omega
  · split
    · refine ⟨by simp [ByteArray.size], by simp [ByteArray.size], ?_⟩
      intro x hx
      simp only [List.mem_cons, List.not_mem_nil, or_false] at hx
      rcases hx with rfl | rfl | rfl <;> simp <;> omega
    · refine ⟨by simp [ByteArray.size], by simp [ByteArray.size], ?_⟩
      intro x hx
      simp only [List.mem_cons, List.not_mem_nil, or_false] at hx
      rcases hx with rfl | rfl | rfl | rfl <;> simp <;> omega

theorem index_not {l : List UInt8} {x : UInt8} (h : ∀ c ∈ l, c ≠ x) : Lib.indexByte l x = -1 := by
  induction l with
  | nil => rfl
  | cons b l ih =>
    have h1 := h b (by simp)
    have h2 := ih (fun c hc => h c (by simp [hc]))
    simp [Lib.indexByte, h1, h2]

set_option maxRecDepth 1000000 in
set_option maxHeartbeats 1000000 in
theorem index_high (r : Nat) (h0 : 128 ≤ r) (h1 : r ≤ 1114111) (h2 : ((r : Int) == 65533) = false) (w : World) :
    Calls Tryd.prog 90 #[.string hexS, .int .i32 r] w fun e w' => e = .returned (.int .i64 (-1)) ∧ Below w.heap.size w w' := by
  have hz : hexS.size = 22 := rfl
  have HL := Lib.hid hexS_low
  obtain ⟨v, hv⟩ : ∃ v, Lib.validRune (r : Int) = v := ⟨_, rfl⟩
  have HV : Hid (∀ W, Calls Tryd.prog 83 #[.int .i32 r] W fun e w' => e = .returned (.bool v) ∧ w' = W) := fun W => by rw [← hv]; exact Tryd.utf8_ValidRune r W
  have hr : ¬ (r : Int) < 128 := by omega
  obtain ⟨R, hR, e1, e2, e3⟩ := enc_high (r : Int) (by omega)
  have hcv : ∀ W, (convert 21 9 (.int .i32 (r : Int))).run Tryd.prog W = .ok (.string R) W := fun W => by
    rw [← hR]; exact run_convert_int_string W 21 9 .i32 r (by kernel_rfl) Tryd.underlying9
  obtain ⟨m, hm⟩ : ∃ m, R.size = m + 1 := ⟨R.size - 1, by omega⟩
  have hlt : m < hexS.size := by omega
  have hlr : m < R.size := by omega
  have hq1 := hexS_low m hlt
  have hq2 : 128 ≤ (R[m]'hlr).toNat := by
    apply e3
    have : R[m]'hlr = R.data[m]'hlr := rfl
    rw [this]; simp
  have hqn : (((hexS[m]'hlt).toNat : Int) != ((R[m]'hlr).toNat : Int)) = true := by
    rw [bne_iff_ne]; omega
  have hi := fun W => Tryd.strings_IndexByte (hexS.extract (m + 1) 22) ((R[m]'hlr).toNat : Int) W
  have hib : Lib.indexByte (hexS.extract (m + 1) 22).data.toList ((R[m]'hlr).toNat : Int).toNat.toUInt8 = -1 := by
    apply index_not
    intro c hc
    have h1 : c.toNat < 128 := by
      have : c ∈ hexS.data.toList := by
        rw [Lib.extract_data] at hc
        exact List.mem_of_mem_drop (List.mem_of_mem_take hc)
      exact (show ∀ c ∈ hexS.data.toList, c.toNat < 128 by decide) c this
    intro e
    rw [e] at h1
    simp at h1
    omega
  rw [hib] at hi
  have HI := Lib.hid hi
  have hm3 : (m : Int) < 22 := by omega
  have hm4 : (0 : Int) ≤ m := by omega
  have hm5 : (m : Int) < (m : Int) + 1 := by omega
  have hma : IntKind.i64.wrap ((m : Int) + 1) = (m : Int) + 1 := IntWalk.i64_in _ (by omega)
  clear hv hR e3 hi hib e1 e2
  go_enter Tryd.func90, Tryd.ntmps90
  go_wp2_with (first
    | (go_at_call 83; (with_reducible refine (HV.out _).mono ?_); rintro e' _ ⟨rfl, rfl⟩))
  · go_ret
    exact ⟨rfl, Below.refl _ _⟩
  · go_step3
    go_wp2_with fail
    refine wp_loop_rounds 1 ?_
    rw [rounds_succ]
    go_wp2_with fail
    go_step3
    go_wp2_with fail
    go_region
    go_wp2_with fail
    go_region_with (go_at_call 37; (with_reducible refine (HI.out _).mono ?_); rintro e' _ ⟨rfl, rfl⟩)
    all_goals go_wp2_with fail
    all_goals rw [Exit.noGoto_ret]
    all_goals (try go_wp2_with fail)
    all_goals (try rw [Exit.noGoto_ret])
    all_goals go_ret
    all_goals exact ⟨rfl, ⟨rfl, rfl, rfl, Nat.le_refl _, fun _ _ => rfl⟩⟩

/-- The place of a hexadecimal digit among the twenty-two; -1: it is none. -/
def hexI (r : Nat) : Int := if r < 128 then Lib.indexByte hexB (UInt8.ofNat r) else -1
theorem hexIndex_any (r : Nat) (h1 : r ≤ 1114111) (w : World) :
    Calls Tryd.prog 90 #[.string hexS, .int .i32 r] w fun e w' => e = .returned (.int .i64 (hexI r)) ∧ Below w.heap.size w w' := by
  unfold hexI
  by_cases h0 : r < 128
  · rw [if_pos h0]
    refine (Tryd.strings_IndexRune_ascii hexS r w (by omega) (by omega)).mono ?_
    rintro e w' ⟨rfl, rfl⟩
    exact ⟨rfl, Below.refl _ _⟩
  · rw [if_neg h0]
    by_cases h2 : r = 65533
    · subst h2; exact index_err w
    · exact index_high r (by omega) h1 (by rw [beq_eq_false_iff_ne]; omega) w
end Go.Proofs.YtmjooghfghmngaaDoor
