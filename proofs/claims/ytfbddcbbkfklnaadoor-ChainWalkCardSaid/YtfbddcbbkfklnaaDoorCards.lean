/-
  DERIVED. GIVEN WITH THE SEED: THE CARDS: each row of YtfbddcbbkfklnaaDoorRows.lean that lists a variable, with what it lists TIED to the program's text (the seventh form; the later family's looks); each row that meets fmt, with fmt's text TOLD by the authors' own Lean function (tested against real Go, not proved from fmt's source: count such statements apart). THE CARD IS WHAT COUNTS. Prove the row's statement (the work); the ties are given (YtfbddcbbkfklnaaDoorTie.lean); close each card by the builder's one call (the guide's Derived/Test/ToyasCard.lean, 'card_holds'). Laid BY PROGRAM, IN A SANDBOX (cutbox-door.mjs). By AI agents, Wed Nov 11 2026. No macro, syntax, notation, axiom, sorry.
-/
import Derived.Test.YtfbddcbbkfklnaaDoorRows
import GoSem.ClaimSeven
namespace Go.Proofs.YtfbddcbbkfklnaaDoor
namespace Rows

/-- THE TIED CARD OF 'heavykeyslaw11.ChainNew'. -/
def chainNewCard : Claim7 := { stood := { row := chainNewRow, standIns := [], harness := (true, "c057364d7f4004425033e70f06555bb1b4e534160c50c887c71355b7033ef7f2"), looks := false }, kinds := [], alts := [], laidByText := true, laidKinds := [.data], laidTests := true, laidLooks := .later }
def ChainNewCardSaid : Prop := Claim7.holds Tryd.pinned (.plain (OpenSpec.ofChange chainNewSpec)) chainNewCard

/-- THE TIED CARD OF 'heavykeyslaw11.ChainSteps'. -/
def chainStepsCard : Claim7 := { stood := { row := chainStepsRow, standIns := [], harness := (true, "c057364d7f4004425033e70f06555bb1b4e534160c50c887c71355b7033ef7f2"), looks := false }, kinds := [], alts := [], laidByText := true, laidKinds := [.data], laidTests := true, laidLooks := .later }
def ChainStepsCardSaid : Prop := Claim7.holds Tryd.pinned (.plain (OpenSpec.ofChange chainStepsSpec)) chainStepsCard

/-- THE TIED CARD OF 'heavykeyslaw11.ChainWalk'. -/
def chainWalkCard : Claim7 := { stood := { row := chainWalkRow, standIns := [], harness := (true, "c057364d7f4004425033e70f06555bb1b4e534160c50c887c71355b7033ef7f2"), looks := false }, kinds := [], alts := [], laidByText := true, laidKinds := [.data], laidTests := true, laidLooks := .later }
def ChainWalkCardSaid : Prop := Claim7.holds Tryd.pinned (.plain (OpenSpec.ofChange chainWalkSpec)) chainWalkCard

/-- THE TIED CARD OF 'heavykeyslaw11.ChainTexts'. -/
def chainTextsCard : Claim7 := { stood := { row := chainTextsRow, standIns := [], harness := (true, "c057364d7f4004425033e70f06555bb1b4e534160c50c887c71355b7033ef7f2"), looks := false }, kinds := [], alts := [], laidByText := true, laidKinds := [.data], laidTests := true, laidLooks := .later }
def ChainTextsCardSaid : Prop := Claim7.holds Tryd.pinned (.plain (OpenSpec.ofChange chainTextsSpec)) chainTextsCard

/-- THE SECOND FORM's CARD OF 'heavykeyslaw11.ChainNew'. -/
def chainNewUptoCard : Claim7 := { stood := { row := chainNewUptoRow, standIns := [], harness := (true, "c057364d7f4004425033e70f06555bb1b4e534160c50c887c71355b7033ef7f2"), looks := false }, kinds := [], alts := [], laidByText := true, laidKinds := [.data], laidTests := true, laidLooks := .later }
def ChainNewUptoCardSaid : Prop := Claim7.holds Tryd.pinned (.plain (OpenSpec.upto chainNewSpec)) chainNewUptoCard

/-- THE SECOND FORM's CARD OF 'heavykeyslaw11.ChainSteps'. -/
def chainStepsUptoCard : Claim7 := { stood := { row := chainStepsUptoRow, standIns := [], harness := (true, "c057364d7f4004425033e70f06555bb1b4e534160c50c887c71355b7033ef7f2"), looks := false }, kinds := [], alts := [], laidByText := true, laidKinds := [.data], laidTests := true, laidLooks := .later }
def ChainStepsUptoCardSaid : Prop := Claim7.holds Tryd.pinned (.plain (OpenSpec.upto chainStepsSpec)) chainStepsUptoCard

/-- THE SECOND FORM's CARD OF 'heavykeyslaw11.ChainWalk'. -/
def chainWalkUptoCard : Claim7 := { stood := { row := chainWalkUptoRow, standIns := [], harness := (true, "c057364d7f4004425033e70f06555bb1b4e534160c50c887c71355b7033ef7f2"), looks := false }, kinds := [], alts := [], laidByText := true, laidKinds := [.data], laidTests := true, laidLooks := .later }
def ChainWalkUptoCardSaid : Prop := Claim7.holds Tryd.pinned (.plain (OpenSpec.upto chainWalkSpec)) chainWalkUptoCard

/-- THE SECOND FORM's CARD OF 'heavykeyslaw11.ChainTexts'. -/
def chainTextsUptoCard : Claim7 := { stood := { row := chainTextsUptoRow, standIns := [], harness := (true, "c057364d7f4004425033e70f06555bb1b4e534160c50c887c71355b7033ef7f2"), looks := false }, kinds := [], alts := [], laidByText := true, laidKinds := [.data], laidTests := true, laidLooks := .later }
def ChainTextsUptoCardSaid : Prop := Claim7.holds Tryd.pinned (.plain (OpenSpec.upto chainTextsSpec)) chainTextsUptoCard
end Rows
end Go.Proofs.YtfbddcbbkfklnaaDoor
