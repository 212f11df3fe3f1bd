/- The specified table in memory: without, Get, Take. Conditions: none beyond those typed. -/
import Derived.Test.YtbdafhephmoedaaSvref
import Derived.Test.YtbdafhephmoedaaBm
import Derived.Test.YtbdafhephmoedaaZpaint
import Derived.Test.YtbdafhephmoedaaQlate
import Derived.Deep.RegionLaw
namespace Go.Proofs.Ytbdafhephmoedaa
open Go.ChangeShapes Go.WideShapes Go.ChangeAt Go.RowKit
set_option linter.unusedVariables false
set_option linter.unusedSimpArgs false
set_option maxRecDepth 100000

/-- A row in new memory, its own. -/
def OwnOut {α : Type} (K : Kind α) (w : World) (N : Nat) (l : List α) (e : Ending) (w' : World) : Prop := ∃ A c, e = .returned (.slice A N c) ∧ OwnK K w' (.slice A N c) l ∧ New w (.slice A N c) ∧ Below w.heap.size w w'
/-- An entry is written into its box. -/
theorem vbox_en {col : Col} {w : World} {g' c : Nat} {a : En} (X : BoxC col w g' c (VE a) 24) (e : En) :
    BoxC col (((w.setCell ⟨g', 0, none⟩ (.string e.1)).setCell ⟨g', 1, none⟩ (.int .u64 e.2.1)).setCell ⟨g', 2, none⟩ (.int .u64 e.2.2)) g' c (VE e) 24 := ((X.put 0 _).put 1 _).put 2 _
section
variable {P : Nat → Prop} {col col' : Col} {w w' : World} {k g : Nat} {t : TSt}
end
end Go.Proofs.Ytbdafhephmoedaa
