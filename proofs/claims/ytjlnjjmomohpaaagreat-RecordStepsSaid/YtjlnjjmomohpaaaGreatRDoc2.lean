/- Layer record: bytes of the call's own, and items, in regions that draw their order: one operation at a time. -/
import Derived.Test.YtjlnjjmomohpaaaGreatRMem
import Derived.Test.YtjlnjjmomohpaaaGreatREdg
import Derived.Test.YtjlnjjmomohpaaaGreatGRef
import Derived.Laws.BytesString
namespace Go.Proofs.YtjlnjjmomohpaaaGreat
open Go.RowKit Go.Lib
section
variable {P : Program} {md : Region.Mode} {ops : Array Oper} {Q : Exit → Act → World → Prop} {S : World → Prop}
end
theorem BRow.kept {w0 W W' : World} {v : Value} {l : List UInt8} {row : Option Nat} (h : BRow w0 v l W) (hg : W.grownBy W' row) (hb : Below w0.heap.size w0 W') (hne : v.ownBlock = Option.none ∨ v.ownBlock ≠ row) : BRow w0 v l W' := ⟨hb, h.2.kept hg hne⟩
theorem BRow.some {w0 W : World} {v : Value} {l : List UInt8} (h : BRow w0 v l W) (hl : 0 < l.length) : ∃ g c, v = .slice (Option.some ⟨g, 0, Option.none⟩) l.length c := by
 rcases h.2.2 with ⟨-, h0⟩ | ⟨g, cap, cur, rfl, -⟩
 ·omega
 ·exact ⟨g, cap, rfl⟩
theorem BRow.lit {w0 W : World} (hb : Below w0.heap.size w0 W) (cs : Array Value) (l : List UInt8) (hcs : cs.toList = byV l) (hm : l.length ≤ 1000000) : BRow w0 (.slice (Option.some ⟨W.heap.size, 0, Option.none⟩) l.length l.length) l (W.alloc (Obj.cells cs 5 (0, 0))) := by
 have hs : cs.size = l.length := by rw [← Array.length_toList, hcs, byV_len]
 refine ⟨hb.alloc hb.size _, by rw [byV_len, Nat.mul_one], .inr ⟨W.heap.size, l.length, cs, rfl, hb.size, heap_alloc_new W _, Nat.le_refl _, by unfold maxLen; omega, by omega, ?_⟩⟩
 rw [List.take_of_length_le (by rw [Array.length_toList, hs]; omega), hcs]
theorem ByT.grow {W W' : World} {A : Option Addr} {s : List UInt8} {q : Option Nat} (h : ByT W A s) (hg : W.grownBy W' q) (hne : ∀ g o, A = some ⟨g, o, none⟩ → q ≠ some g) : ByT W' A s := fun h0 => by
 obtain ⟨g, o, cs, fr, e, hh, hc⟩ := h h0
 exact ⟨g, o, cs, fr, e, (hg.block g (blk_lt hh) (fun e' => hne g o e e'.symm)).trans hh, hc⟩
end Go.Proofs.YtjlnjjmomohpaaaGreat

namespace Go.Proofs.YtjlnjjmomohpaaaGreat
open Go.RowKit Go.Lib

end Go.Proofs.YtjlnjjmomohpaaaGreat

namespace Go.Proofs.YtjlnjjmomohpaaaGreat
open Go.RowKit Go.Lib

theorem bytes_list (a : List UInt8) : (⟨a.toArray⟩ : ByteArray).toList = a := by
 rw [ByteArray.toList_eq]
def findTo (l : List Itm) (key : List UInt8) : Nat → Int
 |0 => -1
 |k + 1 => if (l.getD k ([], [])).1 = key then (k : Int) else findTo l key k
def findI (l : List Itm) (key : List UInt8) : Int := findTo l key l.length
theorem its_at {W : World} {A : Option Addr} {l : List IV} (h : ItsAt W A l) {k : Nat} (hk : k < l.length) : ∃ ad, A = some ad ∧ W.cell? (ad.add (k * 2)) = some (.slice l[k].kA l[k].key.length l[k].kc) ∧ W.cell? ⟨(ad.add (k * 2)).block, (ad.add (k * 2)).off + 1, none⟩ = some (.slice l[k].vA l[k].val.length l[k].vc) := by
 obtain ⟨ad, e, -, h0, h1⟩ := h.1.at kindI.len hk
 exact ⟨ad, e, h0 _ (by decide) rfl, h1 1 _ (by decide) (by decide) rfl⟩
end Go.Proofs.YtjlnjjmomohpaaaGreat
