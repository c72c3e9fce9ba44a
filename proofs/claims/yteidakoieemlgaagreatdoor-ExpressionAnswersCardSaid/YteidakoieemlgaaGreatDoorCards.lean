/-
  DERIVED. GIVEN WITH THE SEED: THE CARDS: each row of YteidakoieemlgaaGreatDoorRows.lean that lists a variable, with what it lists TIED to the program's text (the seventh form; the later family's looks); each row that meets fmt, with fmt's text TOLD by the authors' own Lean function (tested against real Go, not proved from fmt's source: count such statements apart). THE CARD IS WHAT COUNTS. Prove the row's statement (the work); the ties are given (YteidakoieemlgaaGreatDoorTie.lean); close each card by the builder's one call (the guide's Derived/Test/ToyasCard.lean, 'card_holds'). Laid BY PROGRAM, IN A SANDBOX (cutbox-door.mjs). By AI agents, Wed Nov 11 2026. No macro, syntax, notation, axiom, sorry.
-/
import Derived.Test.YteidakoieemlgaaGreatDoorRows
import GoSem.ClaimSeven
namespace Go.Proofs.YteidakoieemlgaaGreatDoor
namespace Rows

/-- THE TIED CARD OF 'bringuplaw02.ExpressionAnswers'. -/
def expressionAnswersCard : Claim7 := { stood := { row := expressionAnswersRow, standIns := [], harness := (true, "8e79d7a4a281b506d5e6c1da1ac870350f79e81123b83964b1055231081d799a"), looks := false }, kinds := [], alts := [], laidByText := true, laidKinds := [.data, .data, .data], laidTests := true, laidLooks := .later }
def ExpressionAnswersCardSaid : Prop := Claim7.holds Tryz.pinned (.plain (OpenSpec.ofChange expressionAnswersSpec)) expressionAnswersCard

/-- THE SECOND FORM's CARD OF 'bringuplaw02.ExpressionAnswers'. -/
def expressionAnswersUptoCard : Claim7 := { stood := { row := expressionAnswersUptoRow, standIns := [], harness := (true, "8e79d7a4a281b506d5e6c1da1ac870350f79e81123b83964b1055231081d799a"), looks := false }, kinds := [], alts := [], laidByText := true, laidKinds := [.data, .data, .data], laidTests := true, laidLooks := .later }
def ExpressionAnswersUptoCardSaid : Prop := Claim7.holds Tryz.pinned (.plain (OpenSpec.upto expressionAnswersSpec)) expressionAnswersUptoCard
end Rows
end Go.Proofs.YteidakoieemlgaaGreatDoor
