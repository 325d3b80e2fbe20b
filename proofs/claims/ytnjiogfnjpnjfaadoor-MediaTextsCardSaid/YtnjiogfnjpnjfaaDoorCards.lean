/-
  DERIVED. GIVEN WITH THE SEED: THE CARDS: each row of YtnjiogfnjpnjfaaDoorRows.lean that lists a variable, with what it lists TIED to the program's text (the seventh form; the later family's looks); each row that meets fmt, with fmt's text TOLD by the authors' own Lean function (tested against real Go, not proved from fmt's source: count such statements apart). THE CARD IS WHAT COUNTS. Prove the row's statement (the work); the ties are given (YtnjiogfnjpnjfaaDoorTie.lean); close each card by the builder's one call (the guide's Derived/Test/ToyasCard.lean, 'card_holds'). Laid BY PROGRAM, IN A SANDBOX (cutbox-door.mjs). By AI agents, Wed Nov 11 2026. No macro, syntax, notation, axiom, sorry.
-/
import Derived.Test.YtnjiogfnjpnjfaaDoorRows
import GoSem.ClaimSeven
namespace Go.Proofs.YtnjiogfnjpnjfaaDoor
namespace Rows

/-- THE TIED CARD OF 'waybilllaw17.MediaTexts'. -/
def mediaTextsCard : Claim7 := { stood := { row := mediaTextsRow, standIns := [], harness := (true, "3d6cc00634702df1d42eaef54d41d1ef4b79920e10f2e1db2c317c69013aef1d"), looks := true }, kinds := [], alts := [], laidByText := true, laidKinds := [.data, .pinned], laidTests := true, laidLooks := .later }
def MediaTextsCardSaid : Prop := Claim7.holds Tryd.pinned (.plain (OpenSpec.ofChange mediaTextsSpec)) mediaTextsCard

/-- THE TIED CARD OF 'waybilllaw17.MediaAccepts'. -/
def mediaAcceptsCard : Claim7 := { stood := { row := mediaAcceptsRow, standIns := [], harness := (true, "3d6cc00634702df1d42eaef54d41d1ef4b79920e10f2e1db2c317c69013aef1d"), looks := true }, kinds := [], alts := [], laidByText := true, laidKinds := [.data, .handle, .pinned], laidTests := true, laidLooks := .later }
def MediaAcceptsCardSaid : Prop := Claim7.holds Tryd.pinned (.plain (OpenSpec.ofChange mediaAcceptsSpec)) mediaAcceptsCard

/-- THE TIED CARD OF 'waybilllaw17.MediaCases'. -/
def mediaCasesCard : Claim7 := { stood := { row := mediaCasesRow, standIns := [], harness := (true, "3d6cc00634702df1d42eaef54d41d1ef4b79920e10f2e1db2c317c69013aef1d"), looks := true }, kinds := [], alts := [], laidByText := true, laidKinds := [.data, .pinned], laidTests := true, laidLooks := .later }
def MediaCasesCardSaid : Prop := Claim7.holds Tryd.pinned (.plain (OpenSpec.ofChange mediaCasesSpec)) mediaCasesCard

/-- THE SECOND FORM's CARD OF 'waybilllaw17.MediaTexts'. -/
def mediaTextsUptoCard : Claim7 := { stood := { row := mediaTextsUptoRow, standIns := [], harness := (true, "3d6cc00634702df1d42eaef54d41d1ef4b79920e10f2e1db2c317c69013aef1d"), looks := true }, kinds := [], alts := [], laidByText := true, laidKinds := [.data, .pinned], laidTests := true, laidLooks := .later }
def MediaTextsUptoCardSaid : Prop := Claim7.holds Tryd.pinned (.plain (OpenSpec.upto mediaTextsSpec)) mediaTextsUptoCard

/-- THE SECOND FORM's CARD OF 'waybilllaw17.MediaAccepts'. -/
def mediaAcceptsUptoCard : Claim7 := { stood := { row := mediaAcceptsUptoRow, standIns := [], harness := (true, "3d6cc00634702df1d42eaef54d41d1ef4b79920e10f2e1db2c317c69013aef1d"), looks := true }, kinds := [], alts := [], laidByText := true, laidKinds := [.data, .handle, .pinned], laidTests := true, laidLooks := .later }
def MediaAcceptsUptoCardSaid : Prop := Claim7.holds Tryd.pinned (.plain (OpenSpec.upto mediaAcceptsSpec)) mediaAcceptsUptoCard

/-- THE SECOND FORM's CARD OF 'waybilllaw17.MediaCases'. -/
def mediaCasesUptoCard : Claim7 := { stood := { row := mediaCasesUptoRow, standIns := [], harness := (true, "3d6cc00634702df1d42eaef54d41d1ef4b79920e10f2e1db2c317c69013aef1d"), looks := true }, kinds := [], alts := [], laidByText := true, laidKinds := [.data, .pinned], laidTests := true, laidLooks := .later }
def MediaCasesUptoCardSaid : Prop := Claim7.holds Tryd.pinned (.plain (OpenSpec.upto mediaCasesSpec)) mediaCasesUptoCard
end Rows
end Go.Proofs.YtnjiogfnjpnjfaaDoor
