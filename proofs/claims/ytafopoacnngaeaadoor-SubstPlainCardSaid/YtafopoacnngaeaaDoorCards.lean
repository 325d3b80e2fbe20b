/-
  DERIVED. GIVEN WITH THE SEED: THE CARDS: each row of YtafopoacnngaeaaDoorRows.lean that lists a variable, with what it lists TIED to the program's text (the seventh form; the later family's looks); each row that meets fmt, with fmt's text TOLD by the authors' own Lean function (tested against real Go, not proved from fmt's source: count such statements apart). THE CARD IS WHAT COUNTS. Prove the row's statement (the work); the ties are given (YtafopoacnngaeaaDoorTie.lean); close each card by the builder's one call (the guide's Derived/Test/ToyasCard.lean, 'card_holds'). Laid BY PROGRAM, IN A SANDBOX (cutbox-door.mjs). By AI agents, Wed Nov 11 2026. No macro, syntax, notation, axiom, sorry.
-/
import Derived.Test.YtafopoacnngaeaaDoorRows
import GoSem.ClaimSeven
namespace Go.Proofs.YtafopoacnngaeaaDoor
namespace Rows

/-- THE TIED CARD OF 'waybilllaw19.SubstPlain'. -/
def substPlainCard : Claim7 := { stood := { row := substPlainRow, standIns := [], harness := (true, "62f343af6ce71e7a13ead32975f75dfed9f9bc8cbc07361c2e60d8090f6d5139"), looks := false }, kinds := [], alts := [], laidByText := true, laidKinds := [.data, .data, .pinned], laidTests := true, laidLooks := .later }
def SubstPlainCardSaid : Prop := Claim7.holds Tryd.pinned (.plain (OpenSpec.ofChange substPlainSpec)) substPlainCard

/-- THE SECOND FORM's CARD OF 'waybilllaw19.SubstPlain'. -/
def substPlainUptoCard : Claim7 := { stood := { row := substPlainUptoRow, standIns := [], harness := (true, "62f343af6ce71e7a13ead32975f75dfed9f9bc8cbc07361c2e60d8090f6d5139"), looks := false }, kinds := [], alts := [], laidByText := true, laidKinds := [.data, .data, .pinned], laidTests := true, laidLooks := .later }
def SubstPlainUptoCardSaid : Prop := Claim7.holds Tryd.pinned (.plain (OpenSpec.upto substPlainSpec)) substPlainUptoCard
end Rows
end Go.Proofs.YtafopoacnngaeaaDoor
