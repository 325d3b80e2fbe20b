/-
  DERIVED. GIVEN WITH THE SEED: THE CARDS: each row of YtmaigbfmbhknhaaDoorRows.lean that lists a variable, with what it lists TIED to the program's text (the seventh form; the later family's looks); each row that meets fmt, with fmt's text TOLD by the authors' own Lean function (tested against real Go, not proved from fmt's source: count such statements apart). THE CARD IS WHAT COUNTS. Prove the row's statement (the work); the ties are given (YtmaigbfmbhknhaaDoorTie.lean); close each card by the builder's one call (the guide's Derived/Test/ToyasCard.lean, 'card_holds'). Laid BY PROGRAM, IN A SANDBOX (cutbox-door.mjs). By AI agents, Wed Nov 11 2026. No macro, syntax, notation, axiom, sorry.
-/
import Derived.Test.YtmaigbfmbhknhaaDoorRows
import GoSem.ClaimSeven
namespace Go.Proofs.YtmaigbfmbhknhaaDoor
namespace Rows

/-- THE TIED CARD OF 'waybilllaw04.IdentLists'. -/
def identListsCard : Claim7 := { stood := { row := identListsRow, standIns := [], harness := (true, "b117258fa7422933b4e8e1db9b5a8427b538a5322eea7845b5773a1d04fd9d62"), looks := true }, kinds := [], alts := [], laidByText := true, laidKinds := [.handle], laidTests := true, laidLooks := .later }
def IdentListsCardSaid : Prop := Claim7.holds Tryd.pinned (.plain (OpenSpec.ofChange identListsSpec)) identListsCard

/-- THE TIED CARD OF 'waybilllaw04.IdentApps'. -/
def identAppsCard : Claim7 := { stood := { row := identAppsRow, standIns := [], harness := (true, "b117258fa7422933b4e8e1db9b5a8427b538a5322eea7845b5773a1d04fd9d62"), looks := true }, kinds := [], alts := [], laidByText := true, laidKinds := [.handle], laidTests := true, laidLooks := .later }
def IdentAppsCardSaid : Prop := Claim7.holds Tryd.pinned (.plain (OpenSpec.ofChange identAppsSpec)) identAppsCard

/-- THE SECOND FORM's CARD OF 'waybilllaw04.IdentLists'. -/
def identListsUptoCard : Claim7 := { stood := { row := identListsUptoRow, standIns := [], harness := (true, "b117258fa7422933b4e8e1db9b5a8427b538a5322eea7845b5773a1d04fd9d62"), looks := true }, kinds := [], alts := [], laidByText := true, laidKinds := [.handle], laidTests := true, laidLooks := .later }
def IdentListsUptoCardSaid : Prop := Claim7.holds Tryd.pinned (.plain (OpenSpec.upto identListsSpec)) identListsUptoCard

/-- THE SECOND FORM's CARD OF 'waybilllaw04.IdentApps'. -/
def identAppsUptoCard : Claim7 := { stood := { row := identAppsUptoRow, standIns := [], harness := (true, "b117258fa7422933b4e8e1db9b5a8427b538a5322eea7845b5773a1d04fd9d62"), looks := true }, kinds := [], alts := [], laidByText := true, laidKinds := [.handle], laidTests := true, laidLooks := .later }
def IdentAppsUptoCardSaid : Prop := Claim7.holds Tryd.pinned (.plain (OpenSpec.upto identAppsSpec)) identAppsUptoCard
end Rows
end Go.Proofs.YtmaigbfmbhknhaaDoor
