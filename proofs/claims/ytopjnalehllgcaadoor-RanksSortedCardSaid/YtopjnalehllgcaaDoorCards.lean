/-
  DERIVED. GIVEN WITH THE SEED: THE CARDS: each row of YtopjnalehllgcaaDoorRows.lean that lists a variable, with what it lists TIED to the program's text (the seventh form; the later family's looks); each row that meets fmt, with fmt's text TOLD by the authors' own Lean function (tested against real Go, not proved from fmt's source: count such statements apart). THE CARD IS WHAT COUNTS. Prove the row's statement (the work); the ties are given (YtopjnalehllgcaaDoorTie.lean); close each card by the builder's one call (the guide's Derived/Test/ToyasCard.lean, 'card_holds'). Laid BY PROGRAM, IN A SANDBOX (cutbox-door.mjs). By AI agents, Wed Nov 11 2026. No macro, syntax, notation, axiom, sorry.
-/
import Derived.Test.YtopjnalehllgcaaDoorRows
import GoSem.ClaimSeven
namespace Go.Proofs.YtopjnalehllgcaaDoor
namespace Rows

/-- THE TIED CARD OF 'heavykeyslaw12.RanksNew'. -/
def ranksNewCard : Claim7 := { stood := { row := ranksNewRow, standIns := [], harness := (true, "d44656e5a2f60bc42347bd9a52d397c3a25c97280ce6c2ef2d35bd82f0f1bbf0"), looks := false }, kinds := [], alts := [], laidByText := true, laidKinds := [.data], laidTests := true, laidLooks := .later }
def RanksNewCardSaid : Prop := Claim7.holds Tryd.pinned (.plain (OpenSpec.ofChange ranksNewSpec)) ranksNewCard

/-- THE TIED CARD OF 'heavykeyslaw12.RanksSteps'. -/
def ranksStepsCard : Claim7 := { stood := { row := ranksStepsRow, standIns := [], harness := (true, "d44656e5a2f60bc42347bd9a52d397c3a25c97280ce6c2ef2d35bd82f0f1bbf0"), looks := false }, kinds := [], alts := [], laidByText := true, laidKinds := [.data], laidTests := true, laidLooks := .later }
def RanksStepsCardSaid : Prop := Claim7.holds Tryd.pinned (.plain (OpenSpec.ofChange ranksStepsSpec)) ranksStepsCard

/-- THE TIED CARD OF 'heavykeyslaw12.RanksSorted'. -/
def ranksSortedCard : Claim7 := { stood := { row := ranksSortedRow, standIns := [], harness := (true, "d44656e5a2f60bc42347bd9a52d397c3a25c97280ce6c2ef2d35bd82f0f1bbf0"), looks := false }, kinds := [], alts := [], laidByText := true, laidKinds := [.data], laidTests := true, laidLooks := .later }
def RanksSortedCardSaid : Prop := Claim7.holds Tryd.pinned (.plain (OpenSpec.ofChange ranksSortedSpec)) ranksSortedCard

/-- THE TIED CARD OF 'heavykeyslaw12.RanksAge'. -/
def ranksAgeCard : Claim7 := { stood := { row := ranksAgeRow, standIns := [], harness := (true, "d44656e5a2f60bc42347bd9a52d397c3a25c97280ce6c2ef2d35bd82f0f1bbf0"), looks := false }, kinds := [], alts := [], laidByText := true, laidKinds := [.data], laidTests := true, laidLooks := .later }
def RanksAgeCardSaid : Prop := Claim7.holds Tryd.pinned (.plain (OpenSpec.ofChange ranksAgeSpec)) ranksAgeCard

/-- THE TIED CARD OF 'heavykeyslaw12.RanksDrain'. -/
def ranksDrainCard : Claim7 := { stood := { row := ranksDrainRow, standIns := [], harness := (true, "d44656e5a2f60bc42347bd9a52d397c3a25c97280ce6c2ef2d35bd82f0f1bbf0"), looks := false }, kinds := [], alts := [], laidByText := true, laidKinds := [.data], laidTests := true, laidLooks := .later }
def RanksDrainCardSaid : Prop := Claim7.holds Tryd.pinned (.plain (OpenSpec.ofChange ranksDrainSpec)) ranksDrainCard

/-- THE SECOND FORM's CARD OF 'heavykeyslaw12.RanksNew'. -/
def ranksNewUptoCard : Claim7 := { stood := { row := ranksNewUptoRow, standIns := [], harness := (true, "d44656e5a2f60bc42347bd9a52d397c3a25c97280ce6c2ef2d35bd82f0f1bbf0"), looks := false }, kinds := [], alts := [], laidByText := true, laidKinds := [.data], laidTests := true, laidLooks := .later }
def RanksNewUptoCardSaid : Prop := Claim7.holds Tryd.pinned (.plain (OpenSpec.upto ranksNewSpec)) ranksNewUptoCard

/-- THE SECOND FORM's CARD OF 'heavykeyslaw12.RanksSteps'. -/
def ranksStepsUptoCard : Claim7 := { stood := { row := ranksStepsUptoRow, standIns := [], harness := (true, "d44656e5a2f60bc42347bd9a52d397c3a25c97280ce6c2ef2d35bd82f0f1bbf0"), looks := false }, kinds := [], alts := [], laidByText := true, laidKinds := [.data], laidTests := true, laidLooks := .later }
def RanksStepsUptoCardSaid : Prop := Claim7.holds Tryd.pinned (.plain (OpenSpec.upto ranksStepsSpec)) ranksStepsUptoCard

/-- THE SECOND FORM's CARD OF 'heavykeyslaw12.RanksSorted'. -/
def ranksSortedUptoCard : Claim7 := { stood := { row := ranksSortedUptoRow, standIns := [], harness := (true, "d44656e5a2f60bc42347bd9a52d397c3a25c97280ce6c2ef2d35bd82f0f1bbf0"), looks := false }, kinds := [], alts := [], laidByText := true, laidKinds := [.data], laidTests := true, laidLooks := .later }
def RanksSortedUptoCardSaid : Prop := Claim7.holds Tryd.pinned (.plain (OpenSpec.upto ranksSortedSpec)) ranksSortedUptoCard

/-- THE SECOND FORM's CARD OF 'heavykeyslaw12.RanksAge'. -/
def ranksAgeUptoCard : Claim7 := { stood := { row := ranksAgeUptoRow, standIns := [], harness := (true, "d44656e5a2f60bc42347bd9a52d397c3a25c97280ce6c2ef2d35bd82f0f1bbf0"), looks := false }, kinds := [], alts := [], laidByText := true, laidKinds := [.data], laidTests := true, laidLooks := .later }
def RanksAgeUptoCardSaid : Prop := Claim7.holds Tryd.pinned (.plain (OpenSpec.upto ranksAgeSpec)) ranksAgeUptoCard

/-- THE SECOND FORM's CARD OF 'heavykeyslaw12.RanksDrain'. -/
def ranksDrainUptoCard : Claim7 := { stood := { row := ranksDrainUptoRow, standIns := [], harness := (true, "d44656e5a2f60bc42347bd9a52d397c3a25c97280ce6c2ef2d35bd82f0f1bbf0"), looks := false }, kinds := [], alts := [], laidByText := true, laidKinds := [.data], laidTests := true, laidLooks := .later }
def RanksDrainUptoCardSaid : Prop := Claim7.holds Tryd.pinned (.plain (OpenSpec.upto ranksDrainSpec)) ranksDrainUptoCard
end Rows
end Go.Proofs.YtopjnalehllgcaaDoor
