/-
  DERIVED. GIVEN WITH THE SEED: THE CARDS: each row of YtmgdkdohadaknaaDoorRows.lean that lists a variable, with what it lists TIED to the program's text (the seventh form; the later family's looks); each row that meets fmt, with fmt's text TOLD by the authors' own Lean function (tested against real Go, not proved from fmt's source: count such statements apart). THE CARD IS WHAT COUNTS. Prove the row's statement (the work); the ties are given (YtmgdkdohadaknaaDoorTie.lean); close each card by the builder's one call (the guide's Derived/Test/ToyasCard.lean, 'card_holds'). Laid BY PROGRAM, IN A SANDBOX (cutbox-door.mjs). By AI agents, Wed Nov 11 2026. No macro, syntax, notation, axiom, sorry.
-/
import Derived.Test.YtmgdkdohadaknaaDoorRows
import GoSem.ClaimSeven
namespace Go.Proofs.YtmgdkdohadaknaaDoor
namespace Rows

/-- THE TIED CARD OF 'waybilllaw28.PickWeb'. -/
def pickWebCard : Claim7 := { stood := { row := pickWebRow, standIns := [], harness := (true, "1f792fc1f60f22a7aaec18021a0503690ef547e9364910973cccbfe40b07b5c2"), looks := true }, kinds := [], alts := [], laidByText := true, laidKinds := [.data, .data], laidTests := true, laidLooks := .later }
def PickWebCardSaid : Prop := Claim7.holds Tryd.pinned (.plain (OpenSpec.ofChange pickWebSpec)) pickWebCard

/-- THE TIED CARD OF 'waybilllaw28.PickCustom'. -/
def pickCustomCard : Claim7 := { stood := { row := pickCustomRow, standIns := [], harness := (true, "1f792fc1f60f22a7aaec18021a0503690ef547e9364910973cccbfe40b07b5c2"), looks := true }, kinds := [], alts := [], laidByText := true, laidKinds := [.data, .data], laidTests := true, laidLooks := .later }
def PickCustomCardSaid : Prop := Claim7.holds Tryd.pinned (.plain (OpenSpec.ofChange pickCustomSpec)) pickCustomCard

/-- THE TIED CARD OF 'waybilllaw28.PickRefused'. -/
def pickRefusedCard : Claim7 := { stood := { row := pickRefusedRow, standIns := [], harness := (true, "1f792fc1f60f22a7aaec18021a0503690ef547e9364910973cccbfe40b07b5c2"), looks := true }, kinds := [], alts := [], laidByText := true, laidKinds := [.data, .data], laidTests := true, laidLooks := .later }
def PickRefusedCardSaid : Prop := Claim7.holds Tryd.pinned (.plain (OpenSpec.ofChange pickRefusedSpec)) pickRefusedCard

/-- THE TIED CARD OF 'waybilllaw28.PickOrder'. -/
def pickOrderCard : Claim7 := { stood := { row := pickOrderRow, standIns := [], harness := (true, "1f792fc1f60f22a7aaec18021a0503690ef547e9364910973cccbfe40b07b5c2"), looks := true }, kinds := [], alts := [], laidByText := true, laidKinds := [.data, .data], laidTests := true, laidLooks := .later }
def PickOrderCardSaid : Prop := Claim7.holds Tryd.pinned (.plain (OpenSpec.ofChange pickOrderSpec)) pickOrderCard

/-- THE TIED CARD OF 'waybilllaw28.PickMore'. -/
def pickMoreCard : Claim7 := { stood := { row := pickMoreRow, standIns := [], harness := (true, "1f792fc1f60f22a7aaec18021a0503690ef547e9364910973cccbfe40b07b5c2"), looks := true }, kinds := [], alts := [], laidByText := true, laidKinds := [.data, .data], laidTests := true, laidLooks := .later }
def PickMoreCardSaid : Prop := Claim7.holds Tryd.pinned (.plain (OpenSpec.ofChange pickMoreSpec)) pickMoreCard

/-- THE SECOND FORM's CARD OF 'waybilllaw28.PickWeb'. -/
def pickWebUptoCard : Claim7 := { stood := { row := pickWebUptoRow, standIns := [], harness := (true, "1f792fc1f60f22a7aaec18021a0503690ef547e9364910973cccbfe40b07b5c2"), looks := true }, kinds := [], alts := [], laidByText := true, laidKinds := [.data, .data], laidTests := true, laidLooks := .later }
def PickWebUptoCardSaid : Prop := Claim7.holds Tryd.pinned (.plain (OpenSpec.upto pickWebSpec)) pickWebUptoCard

/-- THE SECOND FORM's CARD OF 'waybilllaw28.PickCustom'. -/
def pickCustomUptoCard : Claim7 := { stood := { row := pickCustomUptoRow, standIns := [], harness := (true, "1f792fc1f60f22a7aaec18021a0503690ef547e9364910973cccbfe40b07b5c2"), looks := true }, kinds := [], alts := [], laidByText := true, laidKinds := [.data, .data], laidTests := true, laidLooks := .later }
def PickCustomUptoCardSaid : Prop := Claim7.holds Tryd.pinned (.plain (OpenSpec.upto pickCustomSpec)) pickCustomUptoCard

/-- THE SECOND FORM's CARD OF 'waybilllaw28.PickRefused'. -/
def pickRefusedUptoCard : Claim7 := { stood := { row := pickRefusedUptoRow, standIns := [], harness := (true, "1f792fc1f60f22a7aaec18021a0503690ef547e9364910973cccbfe40b07b5c2"), looks := true }, kinds := [], alts := [], laidByText := true, laidKinds := [.data, .data], laidTests := true, laidLooks := .later }
def PickRefusedUptoCardSaid : Prop := Claim7.holds Tryd.pinned (.plain (OpenSpec.upto pickRefusedSpec)) pickRefusedUptoCard

/-- THE SECOND FORM's CARD OF 'waybilllaw28.PickOrder'. -/
def pickOrderUptoCard : Claim7 := { stood := { row := pickOrderUptoRow, standIns := [], harness := (true, "1f792fc1f60f22a7aaec18021a0503690ef547e9364910973cccbfe40b07b5c2"), looks := true }, kinds := [], alts := [], laidByText := true, laidKinds := [.data, .data], laidTests := true, laidLooks := .later }
def PickOrderUptoCardSaid : Prop := Claim7.holds Tryd.pinned (.plain (OpenSpec.upto pickOrderSpec)) pickOrderUptoCard

/-- THE SECOND FORM's CARD OF 'waybilllaw28.PickMore'. -/
def pickMoreUptoCard : Claim7 := { stood := { row := pickMoreUptoRow, standIns := [], harness := (true, "1f792fc1f60f22a7aaec18021a0503690ef547e9364910973cccbfe40b07b5c2"), looks := true }, kinds := [], alts := [], laidByText := true, laidKinds := [.data, .data], laidTests := true, laidLooks := .later }
def PickMoreUptoCardSaid : Prop := Claim7.holds Tryd.pinned (.plain (OpenSpec.upto pickMoreSpec)) pickMoreUptoCard
end Rows
end Go.Proofs.YtmgdkdohadaknaaDoor
