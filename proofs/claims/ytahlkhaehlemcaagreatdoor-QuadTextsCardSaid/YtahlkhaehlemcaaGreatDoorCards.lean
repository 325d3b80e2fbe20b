/-
  DERIVED. GIVEN WITH THE SEED: THE CARDS: each row of YtahlkhaehlemcaaGreatDoorRows.lean that lists a variable, with what it lists TIED to the program's text (the seventh form; the later family's looks); each row that meets fmt, with fmt's text TOLD by the authors' own Lean function (tested against real Go, not proved from fmt's source: count such statements apart). THE CARD IS WHAT COUNTS. Prove the row's statement (the work); the ties are given (YtahlkhaehlemcaaGreatDoorTie.lean); close each card by the builder's one call (the guide's Derived/Test/ToyasCard.lean, 'card_holds'). Laid BY PROGRAM, IN A SANDBOX (cutbox-door.mjs). By AI agents, Wed Nov 11 2026. No macro, syntax, notation, axiom, sorry.
-/
import Derived.Test.YtahlkhaehlemcaaGreatDoorRows
import GoSem.ClaimSeven
namespace Go.Proofs.YtahlkhaehlemcaaGreatDoor
namespace Rows

/-- THE TIED CARD OF 'waybilllaw11.QuadReads'. -/
def quadReadsCard : Claim7 := { stood := { row := quadReadsRow, standIns := [], harness := (true, "d02f28f66d787747b4204186c0c400e39e9e6510811867ff0e33232022719825"), looks := true }, kinds := [], alts := [], laidByText := true, laidKinds := [.data, .data, .data, .data, .handle, .sentinel, .sentinel, .pinned], laidTests := true, laidLooks := .later }
def QuadReadsCardSaid : Prop := Claim7.holds Tryz.pinned (.plain (OpenSpec.ofChange quadReadsSpec)) quadReadsCard

/-- THE TIED CARD OF 'waybilllaw11.QuadTexts'. -/
def quadTextsCard : Claim7 := { stood := { row := quadTextsRow, standIns := [], harness := (true, "d02f28f66d787747b4204186c0c400e39e9e6510811867ff0e33232022719825"), looks := true }, kinds := [], alts := [], laidByText := true, laidKinds := [.data, .data, .data, .data, .handle, .sentinel, .sentinel, .pinned], laidTests := true, laidLooks := .later }
def QuadTextsCardSaid : Prop := Claim7.holds Tryz.pinned (.plain (OpenSpec.ofChange quadTextsSpec)) quadTextsCard

/-- THE SECOND FORM's CARD OF 'waybilllaw11.QuadReads'. -/
def quadReadsUptoCard : Claim7 := { stood := { row := quadReadsUptoRow, standIns := [], harness := (true, "d02f28f66d787747b4204186c0c400e39e9e6510811867ff0e33232022719825"), looks := true }, kinds := [], alts := [], laidByText := true, laidKinds := [.data, .data, .data, .data, .handle, .sentinel, .sentinel, .pinned], laidTests := true, laidLooks := .later }
def QuadReadsUptoCardSaid : Prop := Claim7.holds Tryz.pinned (.plain (OpenSpec.upto quadReadsSpec)) quadReadsUptoCard

/-- THE SECOND FORM's CARD OF 'waybilllaw11.QuadTexts'. -/
def quadTextsUptoCard : Claim7 := { stood := { row := quadTextsUptoRow, standIns := [], harness := (true, "d02f28f66d787747b4204186c0c400e39e9e6510811867ff0e33232022719825"), looks := true }, kinds := [], alts := [], laidByText := true, laidKinds := [.data, .data, .data, .data, .handle, .sentinel, .sentinel, .pinned], laidTests := true, laidLooks := .later }
def QuadTextsUptoCardSaid : Prop := Claim7.holds Tryz.pinned (.plain (OpenSpec.upto quadTextsSpec)) quadTextsUptoCard
end Rows
end Go.Proofs.YtahlkhaehlemcaaGreatDoor
