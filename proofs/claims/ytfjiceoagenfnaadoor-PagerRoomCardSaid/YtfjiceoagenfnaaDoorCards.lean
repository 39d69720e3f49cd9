/-
  DERIVED. GIVEN WITH THE SEED: THE CARDS: each row of YtfjiceoagenfnaaDoorRows.lean that lists a variable, with what it lists TIED to the program's text (the seventh form; the later family's looks); each row that meets fmt, with fmt's text TOLD by the authors' own Lean function (tested against real Go, not proved from fmt's source: count such statements apart). THE CARD IS WHAT COUNTS. Prove the row's statement (the work); the ties are given (YtfjiceoagenfnaaDoorTie.lean); close each card by the builder's one call (the guide's Derived/Test/ToyasCard.lean, 'card_holds'). Laid BY PROGRAM, IN A SANDBOX (cutbox-door.mjs). By AI agents, Wed Nov 11 2026. No macro, syntax, notation, axiom, sorry.
-/
import Derived.Test.YtfjiceoagenfnaaDoorRows
import GoSem.ClaimSeven
namespace Go.Proofs.YtfjiceoagenfnaaDoor
namespace Rows

/-- THE TIED CARD OF 'merestonelaw16.PagerActs'. -/
def pagerActsCard : Claim7 := { stood := { row := pagerActsRow, standIns := [], harness := (true, "2bf5b84752ca01fcb0ba1c4e6aabbdfe678c5967eb9f0321431082568607bccc"), looks := false }, kinds := [], alts := [], laidByText := true, laidKinds := [.data], laidTests := true, laidLooks := .later }
def PagerActsCardSaid : Prop := Claim7.holds Tryd.pinned (.plain (OpenSpec.ofChange pagerActsSpec)) pagerActsCard

/-- THE TIED CARD OF 'merestonelaw16.PagerRoom'. -/
def pagerRoomCard : Claim7 := { stood := { row := pagerRoomRow, standIns := [], harness := (true, "2bf5b84752ca01fcb0ba1c4e6aabbdfe678c5967eb9f0321431082568607bccc"), looks := false }, kinds := [], alts := [], laidByText := true, laidKinds := [.data], laidTests := true, laidLooks := .later }
def PagerRoomCardSaid : Prop := Claim7.holds Tryd.pinned (.plain (OpenSpec.ofChange pagerRoomSpec)) pagerRoomCard

/-- THE TIED CARD OF 'merestonelaw16.PagerRoots'. -/
def pagerRootsCard : Claim7 := { stood := { row := pagerRootsRow, standIns := [], harness := (true, "2bf5b84752ca01fcb0ba1c4e6aabbdfe678c5967eb9f0321431082568607bccc"), looks := false }, kinds := [], alts := [], laidByText := true, laidKinds := [.data], laidTests := true, laidLooks := .later }
def PagerRootsCardSaid : Prop := Claim7.holds Tryd.pinned (.plain (OpenSpec.ofChange pagerRootsSpec)) pagerRootsCard

/-- THE TIED CARD OF 'merestonelaw16.PagerRefuses'. -/
def pagerRefusesCard : Claim7 := { stood := { row := pagerRefusesRow, standIns := [], harness := (true, "2bf5b84752ca01fcb0ba1c4e6aabbdfe678c5967eb9f0321431082568607bccc"), looks := false }, kinds := [], alts := [], laidByText := true, laidKinds := [.data], laidTests := true, laidLooks := .later }
def PagerRefusesCardSaid : Prop := Claim7.holds Tryd.pinned (.plain (OpenSpec.ofChange pagerRefusesSpec)) pagerRefusesCard

/-- THE SECOND FORM's CARD OF 'merestonelaw16.PagerActs'. -/
def pagerActsUptoCard : Claim7 := { stood := { row := pagerActsUptoRow, standIns := [], harness := (true, "2bf5b84752ca01fcb0ba1c4e6aabbdfe678c5967eb9f0321431082568607bccc"), looks := false }, kinds := [], alts := [], laidByText := true, laidKinds := [.data], laidTests := true, laidLooks := .later }
def PagerActsUptoCardSaid : Prop := Claim7.holds Tryd.pinned (.plain (OpenSpec.upto pagerActsSpec)) pagerActsUptoCard

/-- THE SECOND FORM's CARD OF 'merestonelaw16.PagerRoom'. -/
def pagerRoomUptoCard : Claim7 := { stood := { row := pagerRoomUptoRow, standIns := [], harness := (true, "2bf5b84752ca01fcb0ba1c4e6aabbdfe678c5967eb9f0321431082568607bccc"), looks := false }, kinds := [], alts := [], laidByText := true, laidKinds := [.data], laidTests := true, laidLooks := .later }
def PagerRoomUptoCardSaid : Prop := Claim7.holds Tryd.pinned (.plain (OpenSpec.upto pagerRoomSpec)) pagerRoomUptoCard

/-- THE SECOND FORM's CARD OF 'merestonelaw16.PagerRoots'. -/
def pagerRootsUptoCard : Claim7 := { stood := { row := pagerRootsUptoRow, standIns := [], harness := (true, "2bf5b84752ca01fcb0ba1c4e6aabbdfe678c5967eb9f0321431082568607bccc"), looks := false }, kinds := [], alts := [], laidByText := true, laidKinds := [.data], laidTests := true, laidLooks := .later }
def PagerRootsUptoCardSaid : Prop := Claim7.holds Tryd.pinned (.plain (OpenSpec.upto pagerRootsSpec)) pagerRootsUptoCard

/-- THE SECOND FORM's CARD OF 'merestonelaw16.PagerRefuses'. -/
def pagerRefusesUptoCard : Claim7 := { stood := { row := pagerRefusesUptoRow, standIns := [], harness := (true, "2bf5b84752ca01fcb0ba1c4e6aabbdfe678c5967eb9f0321431082568607bccc"), looks := false }, kinds := [], alts := [], laidByText := true, laidKinds := [.data], laidTests := true, laidLooks := .later }
def PagerRefusesUptoCardSaid : Prop := Claim7.holds Tryd.pinned (.plain (OpenSpec.upto pagerRefusesSpec)) pagerRefusesUptoCard
end Rows
end Go.Proofs.YtfjiceoagenfnaaDoor
