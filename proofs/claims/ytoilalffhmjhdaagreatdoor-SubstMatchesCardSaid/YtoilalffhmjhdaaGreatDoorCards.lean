/-
  DERIVED. GIVEN WITH THE SEED: THE CARDS: each row of YtoilalffhmjhdaaGreatDoorRows.lean that lists a variable, with what it lists TIED to the program's text (the seventh form; the later family's looks); each row that meets fmt, with fmt's text TOLD by the authors' own Lean function (tested against real Go, not proved from fmt's source: count such statements apart). THE CARD IS WHAT COUNTS. Prove the row's statement (the work); the ties are given (YtoilalffhmjhdaaGreatDoorTie.lean); close each card by the builder's one call (the guide's Derived/Test/ToyasCard.lean, 'card_holds'). Laid BY PROGRAM, IN A SANDBOX (cutbox-door.mjs). By AI agents, Wed Nov 11 2026. No macro, syntax, notation, axiom, sorry.
-/
import Derived.Test.YtoilalffhmjhdaaGreatDoorRows
import GoSem.ClaimSeven
namespace Go.Proofs.YtoilalffhmjhdaaGreatDoor
namespace Rows

/-- THE TIED CARD OF 'waybilllaw19.SubstMatches'. -/
def substMatchesCard : Claim7 := { stood := { row := substMatchesRow, standIns := [], harness := (true, "20c8c8e9d2b08785c37530dc31dd3af8c9f0981301d0b9ce34f7819ecf4abc64"), looks := true }, kinds := [], alts := [], laidByText := true, laidKinds := [.data, .handle, .data, .pinned], laidTests := true, laidLooks := .later }
def SubstMatchesCardSaid : Prop := Claim7.holds Tryz.pinned (.plain (OpenSpec.ofChange substMatchesSpec)) substMatchesCard

/-- THE TIED CARD OF 'waybilllaw19.SubstVars'. -/
def substVarsCard : Claim7 := { stood := { row := substVarsRow, standIns := [], harness := (true, "20c8c8e9d2b08785c37530dc31dd3af8c9f0981301d0b9ce34f7819ecf4abc64"), looks := true }, kinds := [], alts := [], laidByText := true, laidKinds := [.data, .handle, .data, .pinned], laidTests := true, laidLooks := .later }
def SubstVarsCardSaid : Prop := Claim7.holds Tryz.pinned (.plain (OpenSpec.ofChange substVarsSpec)) substVarsCard

/-- THE SECOND FORM's CARD OF 'waybilllaw19.SubstMatches'. -/
def substMatchesUptoCard : Claim7 := { stood := { row := substMatchesUptoRow, standIns := [], harness := (true, "20c8c8e9d2b08785c37530dc31dd3af8c9f0981301d0b9ce34f7819ecf4abc64"), looks := true }, kinds := [], alts := [], laidByText := true, laidKinds := [.data, .handle, .data, .pinned], laidTests := true, laidLooks := .later }
def SubstMatchesUptoCardSaid : Prop := Claim7.holds Tryz.pinned (.plain (OpenSpec.upto substMatchesSpec)) substMatchesUptoCard

/-- THE SECOND FORM's CARD OF 'waybilllaw19.SubstVars'. -/
def substVarsUptoCard : Claim7 := { stood := { row := substVarsUptoRow, standIns := [], harness := (true, "20c8c8e9d2b08785c37530dc31dd3af8c9f0981301d0b9ce34f7819ecf4abc64"), looks := true }, kinds := [], alts := [], laidByText := true, laidKinds := [.data, .handle, .data, .pinned], laidTests := true, laidLooks := .later }
def SubstVarsUptoCardSaid : Prop := Claim7.holds Tryz.pinned (.plain (OpenSpec.upto substVarsSpec)) substVarsUptoCard
end Rows
end Go.Proofs.YtoilalffhmjhdaaGreatDoor
