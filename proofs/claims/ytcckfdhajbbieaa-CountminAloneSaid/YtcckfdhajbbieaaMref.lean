/- The specified table (heavykeysref08.Map) in memory: at, Get. Conditions: none beyond those typed. -/
import Derived.Test.YtcckfdhajbbieaaMmath
import Derived.Test.YtcckfdhajbbieaaZcol
import Derived.Test.YtcckfdhajbbieaaAm
import Derived.Test.YtcckfdhajbbieaaKtext
import Derived.Test.YtcckfdhajbbieaaTm
import Derived.BigQuiet
namespace Go.Proofs.Ytcckfdhajbbieaa
open Go.ChangeShapes Go.WideShapes Go.ChangeAt Go.RowKit
set_option linter.unusedVariables false
set_option linter.unusedSimpArgs false
set_option maxRecDepth 100000

section
variable {P : Nat → Prop} {col col' : Col} {w w' : World} {k g n n' : Nat} {m : MSt Int} {K K' : List ByteArray} {V V' : List Int} {vK vV v' : Value} {s : ByteArray} {i : Nat} {p : ByteArray × Int}
theorem keys_len (m : MSt Int) : m.keys.length = m.l.length := by simp [MSt.keys]
theorem vals_len (m : MSt Int) : m.vals.length = m.l.length := by simp [MSt.vals]
theorem look_is {l : List (ByteArray × Int)} {p : ByteArray × Int} (h : Srt l) (hp : l[placeM l s]? = some p) : (lookM l s).isSome = decide (p.1 = s) := by
  rw [look_place h, hp]
  by_cases e : p.1 = s
  · simp [e]
  · simp [e]
theorem look_off {l : List (ByteArray × Int)} (h : Srt l) (hp : l.length ≤ placeM l s) : lookM l s = none := by
  rw [look_place h, List.getElem?_eq_none hp]
/-- What Get returns. -/
def getV (m : MSt Int) (s : ByteArray) : Int × Bool := ((m.look s).getD 0, (m.look s).isSome)
end
end Go.Proofs.Ytcckfdhajbbieaa
