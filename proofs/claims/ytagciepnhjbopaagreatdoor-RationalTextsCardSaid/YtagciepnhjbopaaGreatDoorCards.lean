/-
  DERIVED. GIVEN WITH THE SEED: THE CARDS: each row of YtagciepnhjbopaaGreatDoorRows.lean that lists a variable, with what it lists TIED to the program's text (the seventh form; the later family's looks); each row that meets fmt, with fmt's text TOLD by the authors' own Lean function (tested against real Go, not proved from fmt's source: count such statements apart). THE CARD IS WHAT COUNTS. Prove the row's statement (the work); the ties are given (YtagciepnhjbopaaGreatDoorTie.lean); close each card by the builder's one call (the guide's Derived/Test/ToyasCard.lean, 'card_holds'). Laid BY PROGRAM, IN A SANDBOX (cutbox-door.mjs). By AI agents, Wed Nov 11 2026. No macro, syntax, notation, axiom, sorry.
-/
import Derived.Test.YtagciepnhjbopaaGreatDoorRows
import GoSem.ClaimSeven
namespace Go.Proofs.YtagciepnhjbopaaGreatDoor
namespace Rows

/-- THE TIED CARD OF 'dspcompilerlaw03.RationalActs'. -/
def rationalActsCard : Claim7 := { stood := { row := rationalActsRow, standIns := [], harness := (true, "6faae55cd4d553e14e82649c7f04d9b92d94c4472a6a4697afff338c71cc0c8d"), looks := false }, kinds := [], alts := [], laidByText := true, laidKinds := [.data], laidTests := true, laidLooks := .later }
def RationalActsCardSaid : Prop := Claim7.holds Tryz.pinned (.plain (OpenSpec.ofChange rationalActsSpec)) rationalActsCard

/-- THE TIED CARD OF 'dspcompilerlaw03.RationalMakes'. -/
def rationalMakesCard : Claim7 := { stood := { row := rationalMakesRow, standIns := [], harness := (true, "6faae55cd4d553e14e82649c7f04d9b92d94c4472a6a4697afff338c71cc0c8d"), looks := false }, kinds := [], alts := [], laidByText := true, laidKinds := [.data], laidTests := true, laidLooks := .later }
def RationalMakesCardSaid : Prop := Claim7.holds Tryz.pinned (.plain (OpenSpec.ofChange rationalMakesSpec)) rationalMakesCard

/-- THE TIED CARD OF 'dspcompilerlaw03.RationalRounds'. -/
def rationalRoundsCard : Claim7 := { stood := { row := rationalRoundsRow, standIns := [], harness := (true, "6faae55cd4d553e14e82649c7f04d9b92d94c4472a6a4697afff338c71cc0c8d"), looks := false }, kinds := [], alts := [], laidByText := true, laidKinds := [.data], laidTests := true, laidLooks := .later }
def RationalRoundsCardSaid : Prop := Claim7.holds Tryz.pinned (.plain (OpenSpec.ofChange rationalRoundsSpec)) rationalRoundsCard

/-- THE TIED CARD OF 'dspcompilerlaw03.RationalTexts'. -/
def rationalTextsCard : Claim7 := { stood := { row := rationalTextsRow, standIns := [], harness := (true, "6faae55cd4d553e14e82649c7f04d9b92d94c4472a6a4697afff338c71cc0c8d"), looks := false }, kinds := [], alts := [], laidByText := true, laidKinds := [.data], laidTests := true, laidLooks := .later }
def RationalTextsCardSaid : Prop := Claim7.holds Tryz.pinned (.plain (OpenSpec.ofChange rationalTextsSpec)) rationalTextsCard

/-- THE TIED CARD OF 'dspcompilerlaw03.RationalField'. -/
def rationalFieldCard : Claim7 := { stood := { row := rationalFieldRow, standIns := [], harness := (true, "6faae55cd4d553e14e82649c7f04d9b92d94c4472a6a4697afff338c71cc0c8d"), looks := false }, kinds := [], alts := [], laidByText := true, laidKinds := [.data], laidTests := true, laidLooks := .later }
def RationalFieldCardSaid : Prop := Claim7.holds Tryz.pinned (.plain (OpenSpec.ofChange rationalFieldSpec)) rationalFieldCard

/-- THE TIED CARD OF 'dspcompilerlaw03.RationalOrder'. -/
def rationalOrderCard : Claim7 := { stood := { row := rationalOrderRow, standIns := [], harness := (true, "6faae55cd4d553e14e82649c7f04d9b92d94c4472a6a4697afff338c71cc0c8d"), looks := false }, kinds := [], alts := [], laidByText := true, laidKinds := [.data], laidTests := true, laidLooks := .later }
def RationalOrderCardSaid : Prop := Claim7.holds Tryz.pinned (.plain (OpenSpec.ofChange rationalOrderSpec)) rationalOrderCard

/-- THE TIED CARD OF 'dspcompilerlaw03.RationalSame'. -/
def rationalSameCard : Claim7 := { stood := { row := rationalSameRow, standIns := [], harness := (true, "6faae55cd4d553e14e82649c7f04d9b92d94c4472a6a4697afff338c71cc0c8d"), looks := false }, kinds := [], alts := [], laidByText := true, laidKinds := [.data], laidTests := true, laidLooks := .later }
def RationalSameCardSaid : Prop := Claim7.holds Tryz.pinned (.plain (OpenSpec.ofChange rationalSameSpec)) rationalSameCard

/-- THE TIED CARD OF 'dspcompilerlaw04.IntervalActs'. -/
def intervalActsCard : Claim7 := { stood := { row := intervalActsRow, standIns := [], harness := (true, "6faae55cd4d553e14e82649c7f04d9b92d94c4472a6a4697afff338c71cc0c8d"), looks := false }, kinds := [], alts := [], laidByText := true, laidKinds := [.data], laidTests := true, laidLooks := .later }
def IntervalActsCardSaid : Prop := Claim7.holds Tryz.pinned (.plain (OpenSpec.ofChange intervalActsSpec)) intervalActsCard

/-- THE TIED CARD OF 'dspcompilerlaw04.IntervalEncloses'. -/
def intervalEnclosesCard : Claim7 := { stood := { row := intervalEnclosesRow, standIns := [], harness := (true, "6faae55cd4d553e14e82649c7f04d9b92d94c4472a6a4697afff338c71cc0c8d"), looks := false }, kinds := [], alts := [], laidByText := true, laidKinds := [.data], laidTests := true, laidLooks := .later }
def IntervalEnclosesCardSaid : Prop := Claim7.holds Tryz.pinned (.plain (OpenSpec.ofChange intervalEnclosesSpec)) intervalEnclosesCard

/-- THE TIED CARD OF 'dspcompilerlaw04.IntervalGrows'. -/
def intervalGrowsCard : Claim7 := { stood := { row := intervalGrowsRow, standIns := [], harness := (true, "6faae55cd4d553e14e82649c7f04d9b92d94c4472a6a4697afff338c71cc0c8d"), looks := false }, kinds := [], alts := [], laidByText := true, laidKinds := [.data], laidTests := true, laidLooks := .later }
def IntervalGrowsCardSaid : Prop := Claim7.holds Tryz.pinned (.plain (OpenSpec.ofChange intervalGrowsSpec)) intervalGrowsCard

/-- THE TIED CARD OF 'dspcompilerlaw04.IntervalMeets'. -/
def intervalMeetsCard : Claim7 := { stood := { row := intervalMeetsRow, standIns := [], harness := (true, "6faae55cd4d553e14e82649c7f04d9b92d94c4472a6a4697afff338c71cc0c8d"), looks := false }, kinds := [], alts := [], laidByText := true, laidKinds := [.data], laidTests := true, laidLooks := .later }
def IntervalMeetsCardSaid : Prop := Claim7.holds Tryz.pinned (.plain (OpenSpec.ofChange intervalMeetsSpec)) intervalMeetsCard

/-- THE SECOND FORM's CARD OF 'dspcompilerlaw03.RationalActs'. -/
def rationalActsUptoCard : Claim7 := { stood := { row := rationalActsUptoRow, standIns := [], harness := (true, "6faae55cd4d553e14e82649c7f04d9b92d94c4472a6a4697afff338c71cc0c8d"), looks := false }, kinds := [], alts := [], laidByText := true, laidKinds := [.data], laidTests := true, laidLooks := .later }
def RationalActsUptoCardSaid : Prop := Claim7.holds Tryz.pinned (.plain (OpenSpec.upto rationalActsSpec)) rationalActsUptoCard

/-- THE SECOND FORM's CARD OF 'dspcompilerlaw03.RationalMakes'. -/
def rationalMakesUptoCard : Claim7 := { stood := { row := rationalMakesUptoRow, standIns := [], harness := (true, "6faae55cd4d553e14e82649c7f04d9b92d94c4472a6a4697afff338c71cc0c8d"), looks := false }, kinds := [], alts := [], laidByText := true, laidKinds := [.data], laidTests := true, laidLooks := .later }
def RationalMakesUptoCardSaid : Prop := Claim7.holds Tryz.pinned (.plain (OpenSpec.upto rationalMakesSpec)) rationalMakesUptoCard

/-- THE SECOND FORM's CARD OF 'dspcompilerlaw03.RationalRounds'. -/
def rationalRoundsUptoCard : Claim7 := { stood := { row := rationalRoundsUptoRow, standIns := [], harness := (true, "6faae55cd4d553e14e82649c7f04d9b92d94c4472a6a4697afff338c71cc0c8d"), looks := false }, kinds := [], alts := [], laidByText := true, laidKinds := [.data], laidTests := true, laidLooks := .later }
def RationalRoundsUptoCardSaid : Prop := Claim7.holds Tryz.pinned (.plain (OpenSpec.upto rationalRoundsSpec)) rationalRoundsUptoCard

/-- THE SECOND FORM's CARD OF 'dspcompilerlaw03.RationalTexts'. -/
def rationalTextsUptoCard : Claim7 := { stood := { row := rationalTextsUptoRow, standIns := [], harness := (true, "6faae55cd4d553e14e82649c7f04d9b92d94c4472a6a4697afff338c71cc0c8d"), looks := false }, kinds := [], alts := [], laidByText := true, laidKinds := [.data], laidTests := true, laidLooks := .later }
def RationalTextsUptoCardSaid : Prop := Claim7.holds Tryz.pinned (.plain (OpenSpec.upto rationalTextsSpec)) rationalTextsUptoCard

/-- THE SECOND FORM's CARD OF 'dspcompilerlaw03.RationalField'. -/
def rationalFieldUptoCard : Claim7 := { stood := { row := rationalFieldUptoRow, standIns := [], harness := (true, "6faae55cd4d553e14e82649c7f04d9b92d94c4472a6a4697afff338c71cc0c8d"), looks := false }, kinds := [], alts := [], laidByText := true, laidKinds := [.data], laidTests := true, laidLooks := .later }
def RationalFieldUptoCardSaid : Prop := Claim7.holds Tryz.pinned (.plain (OpenSpec.upto rationalFieldSpec)) rationalFieldUptoCard

/-- THE SECOND FORM's CARD OF 'dspcompilerlaw03.RationalOrder'. -/
def rationalOrderUptoCard : Claim7 := { stood := { row := rationalOrderUptoRow, standIns := [], harness := (true, "6faae55cd4d553e14e82649c7f04d9b92d94c4472a6a4697afff338c71cc0c8d"), looks := false }, kinds := [], alts := [], laidByText := true, laidKinds := [.data], laidTests := true, laidLooks := .later }
def RationalOrderUptoCardSaid : Prop := Claim7.holds Tryz.pinned (.plain (OpenSpec.upto rationalOrderSpec)) rationalOrderUptoCard

/-- THE SECOND FORM's CARD OF 'dspcompilerlaw03.RationalSame'. -/
def rationalSameUptoCard : Claim7 := { stood := { row := rationalSameUptoRow, standIns := [], harness := (true, "6faae55cd4d553e14e82649c7f04d9b92d94c4472a6a4697afff338c71cc0c8d"), looks := false }, kinds := [], alts := [], laidByText := true, laidKinds := [.data], laidTests := true, laidLooks := .later }
def RationalSameUptoCardSaid : Prop := Claim7.holds Tryz.pinned (.plain (OpenSpec.upto rationalSameSpec)) rationalSameUptoCard

/-- THE SECOND FORM's CARD OF 'dspcompilerlaw04.IntervalActs'. -/
def intervalActsUptoCard : Claim7 := { stood := { row := intervalActsUptoRow, standIns := [], harness := (true, "6faae55cd4d553e14e82649c7f04d9b92d94c4472a6a4697afff338c71cc0c8d"), looks := false }, kinds := [], alts := [], laidByText := true, laidKinds := [.data], laidTests := true, laidLooks := .later }
def IntervalActsUptoCardSaid : Prop := Claim7.holds Tryz.pinned (.plain (OpenSpec.upto intervalActsSpec)) intervalActsUptoCard

/-- THE SECOND FORM's CARD OF 'dspcompilerlaw04.IntervalEncloses'. -/
def intervalEnclosesUptoCard : Claim7 := { stood := { row := intervalEnclosesUptoRow, standIns := [], harness := (true, "6faae55cd4d553e14e82649c7f04d9b92d94c4472a6a4697afff338c71cc0c8d"), looks := false }, kinds := [], alts := [], laidByText := true, laidKinds := [.data], laidTests := true, laidLooks := .later }
def IntervalEnclosesUptoCardSaid : Prop := Claim7.holds Tryz.pinned (.plain (OpenSpec.upto intervalEnclosesSpec)) intervalEnclosesUptoCard

/-- THE SECOND FORM's CARD OF 'dspcompilerlaw04.IntervalGrows'. -/
def intervalGrowsUptoCard : Claim7 := { stood := { row := intervalGrowsUptoRow, standIns := [], harness := (true, "6faae55cd4d553e14e82649c7f04d9b92d94c4472a6a4697afff338c71cc0c8d"), looks := false }, kinds := [], alts := [], laidByText := true, laidKinds := [.data], laidTests := true, laidLooks := .later }
def IntervalGrowsUptoCardSaid : Prop := Claim7.holds Tryz.pinned (.plain (OpenSpec.upto intervalGrowsSpec)) intervalGrowsUptoCard

/-- THE SECOND FORM's CARD OF 'dspcompilerlaw04.IntervalMeets'. -/
def intervalMeetsUptoCard : Claim7 := { stood := { row := intervalMeetsUptoRow, standIns := [], harness := (true, "6faae55cd4d553e14e82649c7f04d9b92d94c4472a6a4697afff338c71cc0c8d"), looks := false }, kinds := [], alts := [], laidByText := true, laidKinds := [.data], laidTests := true, laidLooks := .later }
def IntervalMeetsUptoCardSaid : Prop := Claim7.holds Tryz.pinned (.plain (OpenSpec.upto intervalMeetsSpec)) intervalMeetsUptoCard
end Rows
end Go.Proofs.YtagciepnhjbopaaGreatDoor
