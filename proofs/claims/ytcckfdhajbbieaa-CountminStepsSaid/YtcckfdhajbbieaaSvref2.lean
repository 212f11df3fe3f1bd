/- The specified table in memory: without, Get, Take. Conditions: none beyond those typed. -/
import Derived.Test.YtcckfdhajbbieaaSvref
import Derived.Test.YtcckfdhajbbieaaBm
import Derived.Test.YtcckfdhajbbieaaZpaint
import Derived.Test.YtcckfdhajbbieaaQlate
import Derived.Deep.RegionLaw
namespace Go.Proofs.Ytcckfdhajbbieaa
open Go.ChangeShapes Go.WideShapes Go.ChangeAt Go.RowKit
set_option linter.unusedVariables false
set_option linter.unusedSimpArgs false
set_option maxRecDepth 100000

/-- A row in new memory, its own. -/
def OwnOut {α : Type} (K : Kind α) (w : World) (N : Nat) (l : List α) (e : Ending) (w' : World) : Prop := ∃ A c, e = .returned (.slice A N c) ∧ OwnK K w' (.slice A N c) l ∧ New w (.slice A N c) ∧ Below w.heap.size w w'
section
variable {P : Nat → Prop} {col col' : Col} {w w' : World} {k g : Nat} {t : TSt}
end
end Go.Proofs.Ytcckfdhajbbieaa
