/-
  DERIVED. GIVEN WITH THE SEED: THE CARDS: each row of YtjijdaheabgphaaDoorRows.lean that lists a variable, with what it lists TIED to the program's text (the seventh form; the later family's looks); each row that meets fmt, with fmt's text TOLD by the authors' own Lean function (tested against real Go, not proved from fmt's source: count such statements apart). THE CARD IS WHAT COUNTS. Prove the row's statement (the work); the ties are given (YtjijdaheabgphaaDoorTie.lean); close each card by the builder's one call (the guide's Derived/Test/ToyasCard.lean, 'card_holds'). Laid BY PROGRAM, IN A SANDBOX (cutbox-door.mjs). By AI agents, Wed Nov 11 2026. No macro, syntax, notation, axiom, sorry.
-/
import Derived.Test.YtjijdaheabgphaaDoorRows
import GoSem.ClaimSeven
namespace Go.Proofs.YtjijdaheabgphaaDoor
namespace Rows

/-- THE TIED CARD OF 'waybilllaw15.GlobMatches'. -/
def globMatchesCard : Claim7 := { stood := { row := globMatchesRow, standIns := [], harness := (true, "7c891dc7d01394dea2755a7b5767e8810dc5966fb660248d64947d4680393e9c"), looks := true }, kinds := [], alts := [], laidByText := true, laidKinds := [.data, .handle, .pinned], laidTests := true, laidLooks := .later }
def GlobMatchesCardSaid : Prop := Claim7.holds Tryd.pinned (.plain (OpenSpec.ofChange globMatchesSpec)) globMatchesCard

/-- THE TIED CARD OF 'waybilllaw15.GlobSimple'. -/
def globSimpleCard : Claim7 := { stood := { row := globSimpleRow, standIns := [], harness := (true, "7c891dc7d01394dea2755a7b5767e8810dc5966fb660248d64947d4680393e9c"), looks := true }, kinds := [], alts := [], laidByText := true, laidKinds := [.data, .handle, .pinned], laidTests := true, laidLooks := .later }
def GlobSimpleCardSaid : Prop := Claim7.holds Tryd.pinned (.plain (OpenSpec.ofChange globSimpleSpec)) globSimpleCard

/-- THE TIED CARD OF 'waybilllaw15.GlobQuotes'. -/
def globQuotesCard : Claim7 := { stood := { row := globQuotesRow, standIns := [], harness := (true, "7c891dc7d01394dea2755a7b5767e8810dc5966fb660248d64947d4680393e9c"), looks := true }, kinds := [], alts := [], laidByText := true, laidKinds := [.data, .pinned], laidTests := true, laidLooks := .later }
def GlobQuotesCardSaid : Prop := Claim7.holds Tryd.pinned (.plain (OpenSpec.ofChange globQuotesSpec)) globQuotesCard

/-- THE TIED CARD OF 'waybilllaw15.GlobLeads'. -/
def globLeadsCard : Claim7 := { stood := { row := globLeadsRow, standIns := [], harness := (true, "7c891dc7d01394dea2755a7b5767e8810dc5966fb660248d64947d4680393e9c"), looks := true }, kinds := [], alts := [], laidByText := true, laidKinds := [.data, .pinned], laidTests := true, laidLooks := .later }
def GlobLeadsCardSaid : Prop := Claim7.holds Tryd.pinned (.plain (OpenSpec.ofChange globLeadsSpec)) globLeadsCard

/-- THE TIED CARD OF 'waybilllaw15.GlobStars'. -/
def globStarsCard : Claim7 := { stood := { row := globStarsRow, standIns := [], harness := (true, "7c891dc7d01394dea2755a7b5767e8810dc5966fb660248d64947d4680393e9c"), looks := true }, kinds := [], alts := [], laidByText := true, laidKinds := [.data, .pinned], laidTests := true, laidLooks := .later }
def GlobStarsCardSaid : Prop := Claim7.holds Tryd.pinned (.plain (OpenSpec.ofChange globStarsSpec)) globStarsCard

/-- THE SECOND FORM's CARD OF 'waybilllaw15.GlobMatches'. -/
def globMatchesUptoCard : Claim7 := { stood := { row := globMatchesUptoRow, standIns := [], harness := (true, "7c891dc7d01394dea2755a7b5767e8810dc5966fb660248d64947d4680393e9c"), looks := true }, kinds := [], alts := [], laidByText := true, laidKinds := [.data, .handle, .pinned], laidTests := true, laidLooks := .later }
def GlobMatchesUptoCardSaid : Prop := Claim7.holds Tryd.pinned (.plain (OpenSpec.upto globMatchesSpec)) globMatchesUptoCard

/-- THE SECOND FORM's CARD OF 'waybilllaw15.GlobSimple'. -/
def globSimpleUptoCard : Claim7 := { stood := { row := globSimpleUptoRow, standIns := [], harness := (true, "7c891dc7d01394dea2755a7b5767e8810dc5966fb660248d64947d4680393e9c"), looks := true }, kinds := [], alts := [], laidByText := true, laidKinds := [.data, .handle, .pinned], laidTests := true, laidLooks := .later }
def GlobSimpleUptoCardSaid : Prop := Claim7.holds Tryd.pinned (.plain (OpenSpec.upto globSimpleSpec)) globSimpleUptoCard

/-- THE SECOND FORM's CARD OF 'waybilllaw15.GlobQuotes'. -/
def globQuotesUptoCard : Claim7 := { stood := { row := globQuotesUptoRow, standIns := [], harness := (true, "7c891dc7d01394dea2755a7b5767e8810dc5966fb660248d64947d4680393e9c"), looks := true }, kinds := [], alts := [], laidByText := true, laidKinds := [.data, .pinned], laidTests := true, laidLooks := .later }
def GlobQuotesUptoCardSaid : Prop := Claim7.holds Tryd.pinned (.plain (OpenSpec.upto globQuotesSpec)) globQuotesUptoCard

/-- THE SECOND FORM's CARD OF 'waybilllaw15.GlobLeads'. -/
def globLeadsUptoCard : Claim7 := { stood := { row := globLeadsUptoRow, standIns := [], harness := (true, "7c891dc7d01394dea2755a7b5767e8810dc5966fb660248d64947d4680393e9c"), looks := true }, kinds := [], alts := [], laidByText := true, laidKinds := [.data, .pinned], laidTests := true, laidLooks := .later }
def GlobLeadsUptoCardSaid : Prop := Claim7.holds Tryd.pinned (.plain (OpenSpec.upto globLeadsSpec)) globLeadsUptoCard

/-- THE SECOND FORM's CARD OF 'waybilllaw15.GlobStars'. -/
def globStarsUptoCard : Claim7 := { stood := { row := globStarsUptoRow, standIns := [], harness := (true, "7c891dc7d01394dea2755a7b5767e8810dc5966fb660248d64947d4680393e9c"), looks := true }, kinds := [], alts := [], laidByText := true, laidKinds := [.data, .pinned], laidTests := true, laidLooks := .later }
def GlobStarsUptoCardSaid : Prop := Claim7.holds Tryd.pinned (.plain (OpenSpec.upto globStarsSpec)) globStarsUptoCard
end Rows
end Go.Proofs.YtjijdaheabgphaaDoor
