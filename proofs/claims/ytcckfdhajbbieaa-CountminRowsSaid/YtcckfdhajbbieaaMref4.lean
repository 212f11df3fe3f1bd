/- The specified table (heavykeysref08.Map) in memory: Keys, NewMap; SameTexts. Conditions: none beyond those typed. -/
import Derived.Test.YtcckfdhajbbieaaMref3
import Derived.Test.YtcckfdhajbbieaaZcol
import Derived.Test.YtcckfdhajbbieaaAm
import Derived.Test.YtcckfdhajbbieaaKtext
import Derived.Test.YtcckfdhajbbieaaTm
import Derived.BigQuiet
import Derived.Test.YtcckfdhajbbieaaUrow
namespace Go.Proofs.Ytcckfdhajbbieaa
open Go.ChangeShapes Go.WideShapes Go.ChangeAt Go.RowKit
set_option linter.unusedVariables false
set_option linter.unusedSimpArgs false
set_option maxRecDepth 100000

section
variable {P : Nat → Prop} {col col' : Col} {w w' : World} {k g n : Nat} {m : MSt Int} {vK vV v' : Value} {s : ByteArray} {i : Nat}
/-- A row of texts in new memory comes back. -/
def KeysOut (w : World) (l : List ByteArray) (e : Ending) (w' : World) : Prop := ∃ A c, e = .returned (.slice A l.length c) ∧ RdG kT w' A l.length c l ∧ (∀ b o sp, A = some ⟨b, o, sp⟩ → w.heap.size ≤ b) ∧ Below w.heap.size w w'
def mapE (n : Int) (t : Nat) : Int := if n < 1 ∨ 8192 < n then 1 else tabE t
end
end Go.Proofs.Ytcckfdhajbbieaa
