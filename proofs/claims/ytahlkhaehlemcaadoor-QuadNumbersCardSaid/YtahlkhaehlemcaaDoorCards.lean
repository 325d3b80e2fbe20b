/-
  DERIVED. GIVEN WITH THE SEED: THE CARDS: each row of YtahlkhaehlemcaaDoorRows.lean that lists a variable, with what it lists TIED to the program's text (the seventh form; the later family's looks); each row that meets fmt, with fmt's text TOLD by the authors' own Lean function (tested against real Go, not proved from fmt's source: count such statements apart). THE CARD IS WHAT COUNTS. Prove the row's statement (the work); the ties are given (YtahlkhaehlemcaaDoorTie.lean); close each card by the builder's one call (the guide's Derived/Test/ToyasCard.lean, 'card_holds'). Laid BY PROGRAM, IN A SANDBOX (cutbox-door.mjs). By AI agents, Wed Nov 11 2026. No macro, syntax, notation, axiom, sorry.
-/
import Derived.Test.YtahlkhaehlemcaaDoorRows
import GoSem.ClaimSeven
namespace Go.Proofs.YtahlkhaehlemcaaDoor
namespace Rows

/-- THE TIED CARD OF 'waybilllaw11.QuadNumbers'. -/
def quadNumbersCard : Claim7 := { stood := { row := quadNumbersRow, standIns := [], harness := (true, "42c68ec9cfd02b8d0a6d5f636c6d3f380e1ff5107d3adb286ea94b311f335ae8"), looks := true }, kinds := [], alts := [], laidByText := true, laidKinds := [.data, .data, .data, .data, .handle, .sentinel, .sentinel, .pinned], laidTests := true, laidLooks := .later }
def QuadNumbersCardSaid : Prop := Claim7.holds Tryd.pinned (.plain (OpenSpec.ofChange quadNumbersSpec)) quadNumbersCard

/-- THE SECOND FORM's CARD OF 'waybilllaw11.QuadNumbers'. -/
def quadNumbersUptoCard : Claim7 := { stood := { row := quadNumbersUptoRow, standIns := [], harness := (true, "42c68ec9cfd02b8d0a6d5f636c6d3f380e1ff5107d3adb286ea94b311f335ae8"), looks := true }, kinds := [], alts := [], laidByText := true, laidKinds := [.data, .data, .data, .data, .handle, .sentinel, .sentinel, .pinned], laidTests := true, laidLooks := .later }
def QuadNumbersUptoCardSaid : Prop := Claim7.holds Tryd.pinned (.plain (OpenSpec.upto quadNumbersSpec)) quadNumbersUptoCard
end Rows
end Go.Proofs.YtahlkhaehlemcaaDoor
