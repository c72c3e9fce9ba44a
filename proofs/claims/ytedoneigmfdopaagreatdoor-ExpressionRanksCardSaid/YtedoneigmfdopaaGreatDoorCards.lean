/-
  DERIVED. GIVEN WITH THE SEED: THE CARDS: each row of YtedoneigmfdopaaGreatDoorRows.lean that lists a variable, with what it lists TIED to the program's text (the seventh form; the later family's looks); each row that meets fmt, with fmt's text TOLD by the authors' own Lean function (tested against real Go, not proved from fmt's source: count such statements apart). THE CARD IS WHAT COUNTS. Prove the row's statement (the work); the ties are given (YtedoneigmfdopaaGreatDoorTie.lean); close each card by the builder's one call (the guide's Derived/Test/ToyasCard.lean, 'card_holds'). Laid BY PROGRAM, IN A SANDBOX (cutbox-door.mjs). By AI agents, Wed Nov 11 2026. No macro, syntax, notation, axiom, sorry.
-/
import Derived.Test.YtedoneigmfdopaaGreatDoorRows
import GoSem.ClaimSeven
namespace Go.Proofs.YtedoneigmfdopaaGreatDoor
namespace Rows

/-- THE TIED CARD OF 'bringuplaw02.ExpressionAnswers'. -/
def expressionAnswersCard : Claim7 := { stood := { row := expressionAnswersRow, standIns := [], harness := (true, "c45d292a442a69eb652e6deb0af63cf72f7c6701fd8b421b9c959d52f5035332"), looks := false }, kinds := [], alts := [], laidByText := true, laidKinds := [.data, .data, .data], laidTests := true, laidLooks := .later }
def ExpressionAnswersCardSaid : Prop := Claim7.holds Tryz.pinned (.plain (OpenSpec.ofChange expressionAnswersSpec)) expressionAnswersCard

/-- THE TIED CARD OF 'bringuplaw02.ExpressionValues'. -/
def expressionValuesCard : Claim7 := { stood := { row := expressionValuesRow, standIns := [], harness := (true, "c45d292a442a69eb652e6deb0af63cf72f7c6701fd8b421b9c959d52f5035332"), looks := false }, kinds := [], alts := [], laidByText := true, laidKinds := [.data, .data, .data], laidTests := true, laidLooks := .later }
def ExpressionValuesCardSaid : Prop := Claim7.holds Tryz.pinned (.plain (OpenSpec.ofChange expressionValuesSpec)) expressionValuesCard

/-- THE TIED CARD OF 'bringuplaw02.ExpressionRanks'. -/
def expressionRanksCard : Claim7 := { stood := { row := expressionRanksRow, standIns := [], harness := (true, "c45d292a442a69eb652e6deb0af63cf72f7c6701fd8b421b9c959d52f5035332"), looks := false }, kinds := [], alts := [], laidByText := true, laidKinds := [.data, .data, .data], laidTests := true, laidLooks := .later }
def ExpressionRanksCardSaid : Prop := Claim7.holds Tryz.pinned (.plain (OpenSpec.ofChange expressionRanksSpec)) expressionRanksCard

/-- THE TIED CARD OF 'bringuplaw02.ExpressionTexts'. -/
def expressionTextsCard : Claim7 := { stood := { row := expressionTextsRow, standIns := [], harness := (true, "c45d292a442a69eb652e6deb0af63cf72f7c6701fd8b421b9c959d52f5035332"), looks := false }, kinds := [], alts := [], laidByText := true, laidKinds := [.data, .data, .data], laidTests := true, laidLooks := .later }
def ExpressionTextsCardSaid : Prop := Claim7.holds Tryz.pinned (.plain (OpenSpec.ofChange expressionTextsSpec)) expressionTextsCard

/-- THE SECOND FORM's CARD OF 'bringuplaw02.ExpressionAnswers'. -/
def expressionAnswersUptoCard : Claim7 := { stood := { row := expressionAnswersUptoRow, standIns := [], harness := (true, "c45d292a442a69eb652e6deb0af63cf72f7c6701fd8b421b9c959d52f5035332"), looks := false }, kinds := [], alts := [], laidByText := true, laidKinds := [.data, .data, .data], laidTests := true, laidLooks := .later }
def ExpressionAnswersUptoCardSaid : Prop := Claim7.holds Tryz.pinned (.plain (OpenSpec.upto expressionAnswersSpec)) expressionAnswersUptoCard

/-- THE SECOND FORM's CARD OF 'bringuplaw02.ExpressionValues'. -/
def expressionValuesUptoCard : Claim7 := { stood := { row := expressionValuesUptoRow, standIns := [], harness := (true, "c45d292a442a69eb652e6deb0af63cf72f7c6701fd8b421b9c959d52f5035332"), looks := false }, kinds := [], alts := [], laidByText := true, laidKinds := [.data, .data, .data], laidTests := true, laidLooks := .later }
def ExpressionValuesUptoCardSaid : Prop := Claim7.holds Tryz.pinned (.plain (OpenSpec.upto expressionValuesSpec)) expressionValuesUptoCard

/-- THE SECOND FORM's CARD OF 'bringuplaw02.ExpressionRanks'. -/
def expressionRanksUptoCard : Claim7 := { stood := { row := expressionRanksUptoRow, standIns := [], harness := (true, "c45d292a442a69eb652e6deb0af63cf72f7c6701fd8b421b9c959d52f5035332"), looks := false }, kinds := [], alts := [], laidByText := true, laidKinds := [.data, .data, .data], laidTests := true, laidLooks := .later }
def ExpressionRanksUptoCardSaid : Prop := Claim7.holds Tryz.pinned (.plain (OpenSpec.upto expressionRanksSpec)) expressionRanksUptoCard

/-- THE SECOND FORM's CARD OF 'bringuplaw02.ExpressionTexts'. -/
def expressionTextsUptoCard : Claim7 := { stood := { row := expressionTextsUptoRow, standIns := [], harness := (true, "c45d292a442a69eb652e6deb0af63cf72f7c6701fd8b421b9c959d52f5035332"), looks := false }, kinds := [], alts := [], laidByText := true, laidKinds := [.data, .data, .data], laidTests := true, laidLooks := .later }
def ExpressionTextsUptoCardSaid : Prop := Claim7.holds Tryz.pinned (.plain (OpenSpec.upto expressionTextsSpec)) expressionTextsUptoCard
end Rows
end Go.Proofs.YtedoneigmfdopaaGreatDoor
