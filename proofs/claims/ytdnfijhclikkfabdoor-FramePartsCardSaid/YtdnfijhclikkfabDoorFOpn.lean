/- Layer frame's program: Open. -/
import Derived.Test.YtdnfijhclikkfabDoorFSeal
namespace Go.Proofs.YtdnfijhclikkfabDoor
open Go.RowKit Go.Lib

theorem num_at {W : World} {A : Option Addr} {c : Nat} {s : List UInt8} (pi ki : Int) (p k : Nat) (ep : pi = (p : Int)) (ek : ki = (k : Int)) (hB : BytesAt W A s.length s) (hc : s.length ≤ c) (hcm : c ≤ 9223372036854775807) (h1 : 1 ≤ k) (h2 : k ≤ 7) (hs : p + k ≤ s.length) (hm : s.length ≤ 140737488355328) :
    Calls Tryd.prog 10 #[.slice A s.length c, .int .i64 pi, .int .i64 ki] W fun e w' => e = .returned (.tuple #[.int .i64 (numL ((s.drop p).take k) : Nat), .int .i64 0]) ∧ w' = W := by
  subst ep ek; exact num_good p k hB hc hcm h1 h2 hs hm
theorem run_from_at (pi : Int) (A : Option Addr) (n c p : Nat) (ep : pi = (p : Int)) (hp : p ≤ n) (w : World) :
    (Instr.slice 22 (.slice A n c) (some (.int .i64 pi)) none none).run Tryd.prog w = .ok (.slice (advA A c p) (n - p) (c - p)) w := by
  subst ep; exact run_from A n c p hp w
theorem run_range_at (pi mi : Int) (A : Option Addr) (n c p m : Nat) (ep : pi = (p : Int)) (em : mi = (m : Int)) (hp : p ≤ m) (hm : m ≤ n) (hn : n ≤ c) (w : World) :
    (Instr.slice 22 (.slice A n c) (some (.int .i64 pi)) (some (.int .i64 mi)) none).run Tryd.prog w = .ok (.slice (advA A c p) (m - p) (c - p)) w := by
  subst ep em; exact run_range A n c p m hp hm hn w
end Go.Proofs.YtdnfijhclikkfabDoor
