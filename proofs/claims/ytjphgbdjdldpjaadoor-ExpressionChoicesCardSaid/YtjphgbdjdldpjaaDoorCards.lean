/-
  DERIVED. GIVEN WITH THE SEED: THE CARDS: each row of YtjphgbdjdldpjaaDoorRows.lean that lists a variable, with what it lists TIED to the program's text (the seventh form; the later family's looks); each row that meets fmt, with fmt's text TOLD by the authors' own Lean function (tested against real Go, not proved from fmt's source: count such statements apart). THE CARD IS WHAT COUNTS. Prove the row's statement (the work); the ties are given (YtjphgbdjdldpjaaDoorTie.lean); close each card by the builder's one call (the guide's Derived/Test/ToyasCard.lean, 'card_holds'). Laid BY PROGRAM, IN A SANDBOX (cutbox-door.mjs). By AI agents, Wed Nov 11 2026. No macro, syntax, notation, axiom, sorry.
-/
import Derived.Test.YtjphgbdjdldpjaaDoorRows
import GoSem.ClaimSeven
namespace Go.Proofs.YtjphgbdjdldpjaaDoor
namespace Rows

/-- THE TIED CARD OF 'bringuplaw02.ExpressionWraps'. -/
def expressionWrapsCard : Claim7 := { stood := { row := expressionWrapsRow, standIns := [], harness := (true, "61cc49144732118fa9e638e9ab1acc705e417e1d91fdef970cc85254a2732cac"), looks := false }, kinds := [], alts := [], laidByText := true, laidKinds := [.data, .data, .data], laidTests := true, laidLooks := .later }
def ExpressionWrapsCardSaid : Prop := Claim7.holds Tryd.pinned (.plain (OpenSpec.ofChange expressionWrapsSpec)) expressionWrapsCard

/-- THE TIED CARD OF 'bringuplaw02.ExpressionChoices'. -/
def expressionChoicesCard : Claim7 := { stood := { row := expressionChoicesRow, standIns := [], harness := (true, "61cc49144732118fa9e638e9ab1acc705e417e1d91fdef970cc85254a2732cac"), looks := false }, kinds := [], alts := [], laidByText := true, laidKinds := [.data, .data, .data], laidTests := true, laidLooks := .later }
def ExpressionChoicesCardSaid : Prop := Claim7.holds Tryd.pinned (.plain (OpenSpec.ofChange expressionChoicesSpec)) expressionChoicesCard

/-- THE SECOND FORM's CARD OF 'bringuplaw02.ExpressionWraps'. -/
def expressionWrapsUptoCard : Claim7 := { stood := { row := expressionWrapsUptoRow, standIns := [], harness := (true, "61cc49144732118fa9e638e9ab1acc705e417e1d91fdef970cc85254a2732cac"), looks := false }, kinds := [], alts := [], laidByText := true, laidKinds := [.data, .data, .data], laidTests := true, laidLooks := .later }
def ExpressionWrapsUptoCardSaid : Prop := Claim7.holds Tryd.pinned (.plain (OpenSpec.upto expressionWrapsSpec)) expressionWrapsUptoCard

/-- THE SECOND FORM's CARD OF 'bringuplaw02.ExpressionChoices'. -/
def expressionChoicesUptoCard : Claim7 := { stood := { row := expressionChoicesUptoRow, standIns := [], harness := (true, "61cc49144732118fa9e638e9ab1acc705e417e1d91fdef970cc85254a2732cac"), looks := false }, kinds := [], alts := [], laidByText := true, laidKinds := [.data, .data, .data], laidTests := true, laidLooks := .later }
def ExpressionChoicesUptoCardSaid : Prop := Claim7.holds Tryd.pinned (.plain (OpenSpec.upto expressionChoicesSpec)) expressionChoicesUptoCard
end Rows
end Go.Proofs.YtjphgbdjdldpjaaDoor
