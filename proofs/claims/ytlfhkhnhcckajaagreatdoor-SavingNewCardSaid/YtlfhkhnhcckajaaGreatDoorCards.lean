/-
  DERIVED. GIVEN WITH THE SEED: THE CARDS: each row of YtlfhkhnhcckajaaGreatDoorRows.lean that lists a variable, with what it lists TIED to the program's text (the seventh form; the later family's looks); each row that meets fmt, with fmt's text TOLD by the authors' own Lean function (tested against real Go, not proved from fmt's source: count such statements apart). THE CARD IS WHAT COUNTS. Prove the row's statement (the work); the ties are given (YtlfhkhnhcckajaaGreatDoorTie.lean); close each card by the builder's one call (the guide's Derived/Test/ToyasCard.lean, 'card_holds'). Laid BY PROGRAM, IN A SANDBOX (cutbox-door.mjs). By AI agents, Wed Nov 11 2026. No macro, syntax, notation, axiom, sorry.
-/
import Derived.Test.YtlfhkhnhcckajaaGreatDoorRows
import GoSem.ClaimSeven
namespace Go.Proofs.YtlfhkhnhcckajaaGreatDoor
namespace Rows

/-- THE TIED CARD OF 'heavykeyslaw13.SavingNew'. -/
def savingNewCard : Claim7 := { stood := { row := savingNewRow, standIns := [], harness := (true, "b5ddacf6b4ad3b5c054b4b67b97b508a52780ea84c45544a46322863e60ae3aa"), looks := false }, kinds := [], alts := [], laidByText := true, laidKinds := [.data], laidTests := true, laidLooks := .later }
def SavingNewCardSaid : Prop := Claim7.holds Tryz.pinned (.plain (OpenSpec.ofChange savingNewSpec)) savingNewCard

/-- THE TIED CARD OF 'heavykeyslaw13.SavingSteps'. -/
def savingStepsCard : Claim7 := { stood := { row := savingStepsRow, standIns := [], harness := (true, "b5ddacf6b4ad3b5c054b4b67b97b508a52780ea84c45544a46322863e60ae3aa"), looks := false }, kinds := [], alts := [], laidByText := true, laidKinds := [.data], laidTests := true, laidLooks := .later }
def SavingStepsCardSaid : Prop := Claim7.holds Tryz.pinned (.plain (OpenSpec.ofChange savingStepsSpec)) savingStepsCard

/-- THE TIED CARD OF 'heavykeyslaw13.SavingBase'. -/
def savingBaseCard : Claim7 := { stood := { row := savingBaseRow, standIns := [], harness := (true, "b5ddacf6b4ad3b5c054b4b67b97b508a52780ea84c45544a46322863e60ae3aa"), looks := false }, kinds := [], alts := [], laidByText := true, laidKinds := [.data], laidTests := true, laidLooks := .later }
def SavingBaseCardSaid : Prop := Claim7.holds Tryz.pinned (.plain (OpenSpec.ofChange savingBaseSpec)) savingBaseCard

/-- THE TIED CARD OF 'heavykeyslaw13.SavingBounds'. -/
def savingBoundsCard : Claim7 := { stood := { row := savingBoundsRow, standIns := [], harness := (true, "b5ddacf6b4ad3b5c054b4b67b97b508a52780ea84c45544a46322863e60ae3aa"), looks := false }, kinds := [], alts := [], laidByText := true, laidKinds := [.data], laidTests := true, laidLooks := .later }
def SavingBoundsCardSaid : Prop := Claim7.holds Tryz.pinned (.plain (OpenSpec.ofChange savingBoundsSpec)) savingBoundsCard

/-- THE SECOND FORM's CARD OF 'heavykeyslaw13.SavingNew'. -/
def savingNewUptoCard : Claim7 := { stood := { row := savingNewUptoRow, standIns := [], harness := (true, "b5ddacf6b4ad3b5c054b4b67b97b508a52780ea84c45544a46322863e60ae3aa"), looks := false }, kinds := [], alts := [], laidByText := true, laidKinds := [.data], laidTests := true, laidLooks := .later }
def SavingNewUptoCardSaid : Prop := Claim7.holds Tryz.pinned (.plain (OpenSpec.upto savingNewSpec)) savingNewUptoCard

/-- THE SECOND FORM's CARD OF 'heavykeyslaw13.SavingSteps'. -/
def savingStepsUptoCard : Claim7 := { stood := { row := savingStepsUptoRow, standIns := [], harness := (true, "b5ddacf6b4ad3b5c054b4b67b97b508a52780ea84c45544a46322863e60ae3aa"), looks := false }, kinds := [], alts := [], laidByText := true, laidKinds := [.data], laidTests := true, laidLooks := .later }
def SavingStepsUptoCardSaid : Prop := Claim7.holds Tryz.pinned (.plain (OpenSpec.upto savingStepsSpec)) savingStepsUptoCard

/-- THE SECOND FORM's CARD OF 'heavykeyslaw13.SavingBase'. -/
def savingBaseUptoCard : Claim7 := { stood := { row := savingBaseUptoRow, standIns := [], harness := (true, "b5ddacf6b4ad3b5c054b4b67b97b508a52780ea84c45544a46322863e60ae3aa"), looks := false }, kinds := [], alts := [], laidByText := true, laidKinds := [.data], laidTests := true, laidLooks := .later }
def SavingBaseUptoCardSaid : Prop := Claim7.holds Tryz.pinned (.plain (OpenSpec.upto savingBaseSpec)) savingBaseUptoCard

/-- THE SECOND FORM's CARD OF 'heavykeyslaw13.SavingBounds'. -/
def savingBoundsUptoCard : Claim7 := { stood := { row := savingBoundsUptoRow, standIns := [], harness := (true, "b5ddacf6b4ad3b5c054b4b67b97b508a52780ea84c45544a46322863e60ae3aa"), looks := false }, kinds := [], alts := [], laidByText := true, laidKinds := [.data], laidTests := true, laidLooks := .later }
def SavingBoundsUptoCardSaid : Prop := Claim7.holds Tryz.pinned (.plain (OpenSpec.upto savingBoundsSpec)) savingBoundsUptoCard
end Rows
end Go.Proofs.YtlfhkhnhcckajaaGreatDoor
