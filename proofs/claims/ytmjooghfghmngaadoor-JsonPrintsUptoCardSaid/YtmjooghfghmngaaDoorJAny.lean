/- Every value. -/
import Derived.Test.YtmjooghfghmngaaDoorJDep
namespace Go.Proofs.YtmjooghfghmngaaDoor
open Go.RowKit Go.Shelf Go.Lib

theorem value_any {b c : Nat} {A : Option Addr} {s : List UInt8} : ∀ (d : Nat), d ≤ 32 → ∀ (W : World) (tk : Tk), Rd W b A c s tk.k (tk.a : Nat) tk.t tk.q → TW s tk →
    Calls Tryd.prog 23 #[.pointer (some ⟨b, 0, none⟩), .int .i64 ((32 : Int) - (d : Int))] W (OutV b A c s d (valN s d tk) W)
  | 0, _, W, tk, hR, _ => by
    refine value_step (fun h W hR => ?_) (fun h W hR => ?_) hR
    · refine (list_deep hR).mono ?_
      rintro e w' ⟨rfl, hG⟩
      exact OutV.no (by unfold valN; rw [if_pos h]) hG
    · refine (object_deep hR).mono ?_
      rintro e w' ⟨rfl, hG⟩
      exact OutV.no (by unfold valN; rw [if_neg (by rw [h]; decide), if_pos h]) hG
  | d + 1, hd, W, tk, hR, hT => by
    have e1 : (32 : Int) - ((d + 1 : Nat) : Int) = 31 - (d : Int) := by omega
    have e2 : (31 : Int) - (d : Int) + 1 = 32 - (d : Int) := by omega
    refine value_step (fun h W hR => ?_) (fun h W hR => ?_) hR
    · have hq : 1 ≤ tk.q := by
        rcases hT.1 with h0 | h0
        · omega
        · omega
      have hl := list_any (d := d) (by omega) (fun W tk hR hT => by rw [e2]; exact value_any d (by omega) W tk hR hT) hR hT hq
      rw [e1]
      refine hl.mono ?_
      intro e w' ho
      have hv : valN s (d + 1) tk = (match seqN s (listPart (valN s d)) 93 tk with | .error e => .error e | .ok y => .ok (.mk 6 noT y.1.1 y.1.2, y.2)) := by
        rw [valN, if_pos h]
        cases seqN s (listPart (valN s d)) 93 tk <;> rfl
      rw [hv]
      exact ho
    · have hq : 1 ≤ tk.q := by
        rcases hT.1 with h0 | h0
        · omega
        · omega
      have hl := object_any (d := d) (by omega) (fun W tk hR hT => by rw [e2]; exact value_any d (by omega) W tk hR hT) hR hT hq
      rw [e1]
      refine hl.mono ?_
      intro e w' ho
      have hv : valN s (d + 1) tk = (match seqN s (objPart s (valN s d)) 125 tk with | .error e => .error e | .ok y => .ok (.mk 7 noT y.1.1 y.1.2, y.2)) := by
        rw [valN, if_neg (by rw [h]; decide), if_pos h]
        cases seqN s (objPart s (valN s d)) 125 tk <;> rfl
      rw [hv]
      exact ho
end Go.Proofs.YtmjooghfghmngaaDoor
