/-
  DERIVED. GIVEN WITH THE SEED: THE CARDS: each row of YtnjiogfnjpnjfaaGreatDoorRows.lean that lists a variable, with what it lists TIED to the program's text (the seventh form; the later family's looks); each row that meets fmt, with fmt's text TOLD by the authors' own Lean function (tested against real Go, not proved from fmt's source: count such statements apart). THE CARD IS WHAT COUNTS. Prove the row's statement (the work); the ties are given (YtnjiogfnjpnjfaaGreatDoorTie.lean); close each card by the builder's one call (the guide's Derived/Test/ToyasCard.lean, 'card_holds'). Laid BY PROGRAM, IN A SANDBOX (cutbox-door.mjs). By AI agents, Wed Nov 11 2026. No macro, syntax, notation, axiom, sorry.
-/
import Derived.Test.YtnjiogfnjpnjfaaGreatDoorRows
import GoSem.ClaimSeven
namespace Go.Proofs.YtnjiogfnjpnjfaaGreatDoor
namespace Rows

/-- THE TIED CARD OF 'waybilllaw17.MediaReads'. -/
def mediaReadsCard : Claim7 := { stood := { row := mediaReadsRow, standIns := [], harness := (true, "c478baff64eb7ec7e2a11a93f037919f81049a107bd16d6e62d7cdc590f668b2"), looks := true }, kinds := [], alts := [], laidByText := true, laidKinds := [.data, .handle, .pinned], laidTests := true, laidLooks := .later }
def MediaReadsCardSaid : Prop := Claim7.holds Tryz.pinned (.plain (OpenSpec.ofChange mediaReadsSpec)) mediaReadsCard

/-- THE SECOND FORM's CARD OF 'waybilllaw17.MediaReads'. -/
def mediaReadsUptoCard : Claim7 := { stood := { row := mediaReadsUptoRow, standIns := [], harness := (true, "c478baff64eb7ec7e2a11a93f037919f81049a107bd16d6e62d7cdc590f668b2"), looks := true }, kinds := [], alts := [], laidByText := true, laidKinds := [.data, .handle, .pinned], laidTests := true, laidLooks := .later }
def MediaReadsUptoCardSaid : Prop := Claim7.holds Tryz.pinned (.plain (OpenSpec.upto mediaReadsSpec)) mediaReadsUptoCard
end Rows
end Go.Proofs.YtnjiogfnjpnjfaaGreatDoor
