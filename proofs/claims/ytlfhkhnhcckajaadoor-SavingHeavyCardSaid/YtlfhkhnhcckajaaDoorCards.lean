/-
  DERIVED. GIVEN WITH THE SEED: THE CARDS: each row of YtlfhkhnhcckajaaDoorRows.lean that lists a variable, with what it lists TIED to the program's text (the seventh form; the later family's looks); each row that meets fmt, with fmt's text TOLD by the authors' own Lean function (tested against real Go, not proved from fmt's source: count such statements apart). THE CARD IS WHAT COUNTS. Prove the row's statement (the work); the ties are given (YtlfhkhnhcckajaaDoorTie.lean); close each card by the builder's one call (the guide's Derived/Test/ToyasCard.lean, 'card_holds'). Laid BY PROGRAM, IN A SANDBOX (cutbox-door.mjs). By AI agents, Wed Nov 11 2026. No macro, syntax, notation, axiom, sorry.
-/
import Derived.Test.YtlfhkhnhcckajaaDoorRows
import GoSem.ClaimSeven
namespace Go.Proofs.YtlfhkhnhcckajaaDoor
namespace Rows

/-- THE TIED CARD OF 'heavykeyslaw13.SavingHeavy'. -/
def savingHeavyCard : Claim7 := { stood := { row := savingHeavyRow, standIns := [], harness := (true, "14d3cf6585510c37bd41ccd060114639a57df66292b549642b682d7e9c2ae8eb"), looks := false }, kinds := [], alts := [], laidByText := true, laidKinds := [.data], laidTests := true, laidLooks := .later }
def SavingHeavyCardSaid : Prop := Claim7.holds Tryd.pinned (.plain (OpenSpec.ofChange savingHeavySpec)) savingHeavyCard

/-- THE SECOND FORM's CARD OF 'heavykeyslaw13.SavingHeavy'. -/
def savingHeavyUptoCard : Claim7 := { stood := { row := savingHeavyUptoRow, standIns := [], harness := (true, "14d3cf6585510c37bd41ccd060114639a57df66292b549642b682d7e9c2ae8eb"), looks := false }, kinds := [], alts := [], laidByText := true, laidKinds := [.data], laidTests := true, laidLooks := .later }
def SavingHeavyUptoCardSaid : Prop := Claim7.holds Tryd.pinned (.plain (OpenSpec.upto savingHeavySpec)) savingHeavyUptoCard
end Rows
end Go.Proofs.YtlfhkhnhcckajaaDoor
