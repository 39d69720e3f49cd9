/-
  DERIVED. GIVEN WITH THE SEED: THE CARDS: each row of YtchhhaiokpecjaaDoorRows.lean that lists a variable, with what it lists TIED to the program's text (the seventh form; the later family's looks); each row that meets fmt, with fmt's text TOLD by the authors' own Lean function (tested against real Go, not proved from fmt's source: count such statements apart). THE CARD IS WHAT COUNTS. Prove the row's statement (the work); the ties are given (YtchhhaiokpecjaaDoorTie.lean); close each card by the builder's one call (the guide's Derived/Test/ToyasCard.lean, 'card_holds'). Laid BY PROGRAM, IN A SANDBOX (cutbox-door.mjs). By AI agents, Wed Nov 11 2026. No macro, syntax, notation, axiom, sorry.
-/
import Derived.Test.YtchhhaiokpecjaaDoorRows
import GoSem.ClaimSeven
namespace Go.Proofs.YtchhhaiokpecjaaDoor
namespace Rows

/-- THE TIED CARD OF 'merestonelaw01.WideOne'. -/
def wideOneCard : Claim7 := { stood := { row := wideOneRow, standIns := [], harness := (true, "065ded006e965c7f9c92a8ed6b51c36889dcc6f649ac3f425a5eb7f7a89788c1"), looks := false }, kinds := [], alts := [], laidByText := true, laidKinds := [.data, .data, .data], laidTests := true, laidLooks := .later }
def WideOneCardSaid : Prop := Claim7.holds Tryd.pinned (.plain (OpenSpec.ofChange wideOneSpec)) wideOneCard

/-- THE TIED CARD OF 'merestonelaw01.WideSums'. -/
def wideSumsCard : Claim7 := { stood := { row := wideSumsRow, standIns := [], harness := (true, "065ded006e965c7f9c92a8ed6b51c36889dcc6f649ac3f425a5eb7f7a89788c1"), looks := false }, kinds := [], alts := [], laidByText := true, laidKinds := [.data, .data, .data], laidTests := true, laidLooks := .later }
def WideSumsCardSaid : Prop := Claim7.holds Tryd.pinned (.plain (OpenSpec.ofChange wideSumsSpec)) wideSumsCard

/-- THE TIED CARD OF 'merestonelaw01.WideTotal'. -/
def wideTotalCard : Claim7 := { stood := { row := wideTotalRow, standIns := [], harness := (true, "065ded006e965c7f9c92a8ed6b51c36889dcc6f649ac3f425a5eb7f7a89788c1"), looks := false }, kinds := [], alts := [], laidByText := true, laidKinds := [.data, .data, .data], laidTests := true, laidLooks := .later }
def WideTotalCardSaid : Prop := Claim7.holds Tryd.pinned (.plain (OpenSpec.ofChange wideTotalSpec)) wideTotalCard

/-- THE TIED CARD OF 'merestonelaw01.WideTells'. -/
def wideTellsCard : Claim7 := { stood := { row := wideTellsRow, standIns := [], harness := (true, "065ded006e965c7f9c92a8ed6b51c36889dcc6f649ac3f425a5eb7f7a89788c1"), looks := false }, kinds := [], alts := [], laidByText := true, laidKinds := [.data, .data, .data], laidTests := true, laidLooks := .later }
def WideTellsCardSaid : Prop := Claim7.holds Tryd.pinned (.plain (OpenSpec.ofChange wideTellsSpec)) wideTellsCard

/-- THE TIED CARD OF 'merestonelaw01.WideRing'. -/
def wideRingCard : Claim7 := { stood := { row := wideRingRow, standIns := [], harness := (true, "065ded006e965c7f9c92a8ed6b51c36889dcc6f649ac3f425a5eb7f7a89788c1"), looks := false }, kinds := [], alts := [], laidByText := true, laidKinds := [.data, .data, .data], laidTests := true, laidLooks := .later }
def WideRingCardSaid : Prop := Claim7.holds Tryd.pinned (.plain (OpenSpec.ofChange wideRingSpec)) wideRingCard

/-- THE TIED CARD OF 'merestonelaw01.WideOrder'. -/
def wideOrderCard : Claim7 := { stood := { row := wideOrderRow, standIns := [], harness := (true, "065ded006e965c7f9c92a8ed6b51c36889dcc6f649ac3f425a5eb7f7a89788c1"), looks := false }, kinds := [], alts := [], laidByText := true, laidKinds := [.data, .data, .data], laidTests := true, laidLooks := .later }
def WideOrderCardSaid : Prop := Claim7.holds Tryd.pinned (.plain (OpenSpec.ofChange wideOrderSpec)) wideOrderCard

/-- THE TIED CARD OF 'merestonelaw01.WideTimes'. -/
def wideTimesCard : Claim7 := { stood := { row := wideTimesRow, standIns := [], harness := (true, "065ded006e965c7f9c92a8ed6b51c36889dcc6f649ac3f425a5eb7f7a89788c1"), looks := false }, kinds := [], alts := [], laidByText := true, laidKinds := [.data, .data, .data], laidTests := true, laidLooks := .later }
def WideTimesCardSaid : Prop := Claim7.holds Tryd.pinned (.plain (OpenSpec.ofChange wideTimesSpec)) wideTimesCard

/-- THE SECOND FORM's CARD OF 'merestonelaw01.WideOne'. -/
def wideOneUptoCard : Claim7 := { stood := { row := wideOneUptoRow, standIns := [], harness := (true, "065ded006e965c7f9c92a8ed6b51c36889dcc6f649ac3f425a5eb7f7a89788c1"), looks := false }, kinds := [], alts := [], laidByText := true, laidKinds := [.data, .data, .data], laidTests := true, laidLooks := .later }
def WideOneUptoCardSaid : Prop := Claim7.holds Tryd.pinned (.plain (OpenSpec.upto wideOneSpec)) wideOneUptoCard

/-- THE SECOND FORM's CARD OF 'merestonelaw01.WideSums'. -/
def wideSumsUptoCard : Claim7 := { stood := { row := wideSumsUptoRow, standIns := [], harness := (true, "065ded006e965c7f9c92a8ed6b51c36889dcc6f649ac3f425a5eb7f7a89788c1"), looks := false }, kinds := [], alts := [], laidByText := true, laidKinds := [.data, .data, .data], laidTests := true, laidLooks := .later }
def WideSumsUptoCardSaid : Prop := Claim7.holds Tryd.pinned (.plain (OpenSpec.upto wideSumsSpec)) wideSumsUptoCard

/-- THE SECOND FORM's CARD OF 'merestonelaw01.WideTotal'. -/
def wideTotalUptoCard : Claim7 := { stood := { row := wideTotalUptoRow, standIns := [], harness := (true, "065ded006e965c7f9c92a8ed6b51c36889dcc6f649ac3f425a5eb7f7a89788c1"), looks := false }, kinds := [], alts := [], laidByText := true, laidKinds := [.data, .data, .data], laidTests := true, laidLooks := .later }
def WideTotalUptoCardSaid : Prop := Claim7.holds Tryd.pinned (.plain (OpenSpec.upto wideTotalSpec)) wideTotalUptoCard

/-- THE SECOND FORM's CARD OF 'merestonelaw01.WideTells'. -/
def wideTellsUptoCard : Claim7 := { stood := { row := wideTellsUptoRow, standIns := [], harness := (true, "065ded006e965c7f9c92a8ed6b51c36889dcc6f649ac3f425a5eb7f7a89788c1"), looks := false }, kinds := [], alts := [], laidByText := true, laidKinds := [.data, .data, .data], laidTests := true, laidLooks := .later }
def WideTellsUptoCardSaid : Prop := Claim7.holds Tryd.pinned (.plain (OpenSpec.upto wideTellsSpec)) wideTellsUptoCard

/-- THE SECOND FORM's CARD OF 'merestonelaw01.WideRing'. -/
def wideRingUptoCard : Claim7 := { stood := { row := wideRingUptoRow, standIns := [], harness := (true, "065ded006e965c7f9c92a8ed6b51c36889dcc6f649ac3f425a5eb7f7a89788c1"), looks := false }, kinds := [], alts := [], laidByText := true, laidKinds := [.data, .data, .data], laidTests := true, laidLooks := .later }
def WideRingUptoCardSaid : Prop := Claim7.holds Tryd.pinned (.plain (OpenSpec.upto wideRingSpec)) wideRingUptoCard

/-- THE SECOND FORM's CARD OF 'merestonelaw01.WideOrder'. -/
def wideOrderUptoCard : Claim7 := { stood := { row := wideOrderUptoRow, standIns := [], harness := (true, "065ded006e965c7f9c92a8ed6b51c36889dcc6f649ac3f425a5eb7f7a89788c1"), looks := false }, kinds := [], alts := [], laidByText := true, laidKinds := [.data, .data, .data], laidTests := true, laidLooks := .later }
def WideOrderUptoCardSaid : Prop := Claim7.holds Tryd.pinned (.plain (OpenSpec.upto wideOrderSpec)) wideOrderUptoCard

/-- THE SECOND FORM's CARD OF 'merestonelaw01.WideTimes'. -/
def wideTimesUptoCard : Claim7 := { stood := { row := wideTimesUptoRow, standIns := [], harness := (true, "065ded006e965c7f9c92a8ed6b51c36889dcc6f649ac3f425a5eb7f7a89788c1"), looks := false }, kinds := [], alts := [], laidByText := true, laidKinds := [.data, .data, .data], laidTests := true, laidLooks := .later }
def WideTimesUptoCardSaid : Prop := Claim7.holds Tryd.pinned (.plain (OpenSpec.upto wideTimesSpec)) wideTimesUptoCard
end Rows
end Go.Proofs.YtchhhaiokpecjaaDoor
