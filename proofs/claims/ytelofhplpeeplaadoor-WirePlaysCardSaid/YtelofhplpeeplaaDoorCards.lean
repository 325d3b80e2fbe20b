/-
  DERIVED. GIVEN WITH THE SEED: THE CARDS: each row of YtelofhplpeeplaaDoorRows.lean that lists a variable, with what it lists TIED to the program's text (the seventh form; the later family's looks); each row that meets fmt, with fmt's text TOLD by the authors' own Lean function (tested against real Go, not proved from fmt's source: count such statements apart). THE CARD IS WHAT COUNTS. Prove the row's statement (the work); the ties are given (YtelofhplpeeplaaDoorTie.lean); close each card by the builder's one call (the guide's Derived/Test/ToyasCard.lean, 'card_holds'). Laid BY PROGRAM, IN A SANDBOX (cutbox-door.mjs). By AI agents, Wed Nov 11 2026. No macro, syntax, notation, axiom, sorry.
-/
import Derived.Test.YtelofhplpeeplaaDoorRows
import GoSem.ClaimSeven
namespace Go.Proofs.YtelofhplpeeplaaDoor
namespace Rows

/-- THE TIED CARD OF 'waybilllaw26.WireJudges'. -/
def wireJudgesCard : Claim7 := { stood := { row := wireJudgesRow, standIns := [], harness := (true, "a93e52faaadc9472daaf13bbc5b96e9fb1b55d0c01850a3638b92d96acd5e7cb"), looks := true }, kinds := [], alts := [], laidByText := true, laidKinds := [.data, .handle, .pinned], laidTests := true, laidLooks := .later }
def WireJudgesCardSaid : Prop := Claim7.holds Tryd.pinned (.plain (OpenSpec.ofChange wireJudgesSpec)) wireJudgesCard

/-- THE TIED CARD OF 'waybilllaw26.WirePlays'. -/
def wirePlaysCard : Claim7 := { stood := { row := wirePlaysRow, standIns := [], harness := (true, "a93e52faaadc9472daaf13bbc5b96e9fb1b55d0c01850a3638b92d96acd5e7cb"), looks := true }, kinds := [], alts := [], laidByText := true, laidKinds := [.data, .handle, .pinned], laidTests := true, laidLooks := .later }
def WirePlaysCardSaid : Prop := Claim7.holds Tryd.pinned (.plain (OpenSpec.ofChange wirePlaysSpec)) wirePlaysCard

/-- THE TIED CARD OF 'waybilllaw26.WireOnce'. -/
def wireOnceCard : Claim7 := { stood := { row := wireOnceRow, standIns := [], harness := (true, "a93e52faaadc9472daaf13bbc5b96e9fb1b55d0c01850a3638b92d96acd5e7cb"), looks := true }, kinds := [], alts := [], laidByText := true, laidKinds := [.data, .handle, .pinned], laidTests := true, laidLooks := .later }
def WireOnceCardSaid : Prop := Claim7.holds Tryd.pinned (.plain (OpenSpec.ofChange wireOnceSpec)) wireOnceCard

/-- THE TIED CARD OF 'waybilllaw26.WireStatus'. -/
def wireStatusCard : Claim7 := { stood := { row := wireStatusRow, standIns := [], harness := (true, "a93e52faaadc9472daaf13bbc5b96e9fb1b55d0c01850a3638b92d96acd5e7cb"), looks := true }, kinds := [], alts := [], laidByText := true, laidKinds := [.data, .handle, .pinned], laidTests := true, laidLooks := .later }
def WireStatusCardSaid : Prop := Claim7.holds Tryd.pinned (.plain (OpenSpec.ofChange wireStatusSpec)) wireStatusCard

/-- THE SECOND FORM's CARD OF 'waybilllaw26.WireJudges'. -/
def wireJudgesUptoCard : Claim7 := { stood := { row := wireJudgesUptoRow, standIns := [], harness := (true, "a93e52faaadc9472daaf13bbc5b96e9fb1b55d0c01850a3638b92d96acd5e7cb"), looks := true }, kinds := [], alts := [], laidByText := true, laidKinds := [.data, .handle, .pinned], laidTests := true, laidLooks := .later }
def WireJudgesUptoCardSaid : Prop := Claim7.holds Tryd.pinned (.plain (OpenSpec.upto wireJudgesSpec)) wireJudgesUptoCard

/-- THE SECOND FORM's CARD OF 'waybilllaw26.WirePlays'. -/
def wirePlaysUptoCard : Claim7 := { stood := { row := wirePlaysUptoRow, standIns := [], harness := (true, "a93e52faaadc9472daaf13bbc5b96e9fb1b55d0c01850a3638b92d96acd5e7cb"), looks := true }, kinds := [], alts := [], laidByText := true, laidKinds := [.data, .handle, .pinned], laidTests := true, laidLooks := .later }
def WirePlaysUptoCardSaid : Prop := Claim7.holds Tryd.pinned (.plain (OpenSpec.upto wirePlaysSpec)) wirePlaysUptoCard

/-- THE SECOND FORM's CARD OF 'waybilllaw26.WireOnce'. -/
def wireOnceUptoCard : Claim7 := { stood := { row := wireOnceUptoRow, standIns := [], harness := (true, "a93e52faaadc9472daaf13bbc5b96e9fb1b55d0c01850a3638b92d96acd5e7cb"), looks := true }, kinds := [], alts := [], laidByText := true, laidKinds := [.data, .handle, .pinned], laidTests := true, laidLooks := .later }
def WireOnceUptoCardSaid : Prop := Claim7.holds Tryd.pinned (.plain (OpenSpec.upto wireOnceSpec)) wireOnceUptoCard

/-- THE SECOND FORM's CARD OF 'waybilllaw26.WireStatus'. -/
def wireStatusUptoCard : Claim7 := { stood := { row := wireStatusUptoRow, standIns := [], harness := (true, "a93e52faaadc9472daaf13bbc5b96e9fb1b55d0c01850a3638b92d96acd5e7cb"), looks := true }, kinds := [], alts := [], laidByText := true, laidKinds := [.data, .handle, .pinned], laidTests := true, laidLooks := .later }
def WireStatusUptoCardSaid : Prop := Claim7.holds Tryd.pinned (.plain (OpenSpec.upto wireStatusSpec)) wireStatusUptoCard
end Rows
end Go.Proofs.YtelofhplpeeplaaDoor
