/- The specified table (heavykeysref08.Map) in memory: Delete. Conditions: none beyond those typed. -/
import Derived.Test.YtcckfdhajbbieaaMref2
namespace Go.Proofs.Ytcckfdhajbbieaa
open Go.ChangeShapes Go.WideShapes Go.ChangeAt Go.RowKit
set_option linter.unusedVariables false
set_option linter.unusedSimpArgs false
set_option maxRecDepth 100000

section
variable {P : Nat → Prop} {col col' : Col} {w w' : World} {k g n : Nat} {m : MSt Int} {vK vV v' : Value} {s : ByteArray} {i : Nat} {p : ByteArray × Int}
theorem del_none (h : m.look s = none) : m.del s = m := by unfold MSt.del; rw [h]
theorem del_some {u : Int} (h : m.look s = some u) : m.del s = { m with l := delM m.l s } := by unfold MSt.del; rw [h]
theorem del_keys (l : List (ByteArray × Int)) (s : ByteArray) : (delM l s).map Prod.fst = (l.map Prod.fst).take (placeM l s) ++ (l.map Prod.fst).drop (placeM l s + 1) := by unfold delM; simp [List.map_take, List.map_drop]
theorem del_vals (l : List (ByteArray × Int)) (s : ByteArray) : (delM l s).map Prod.snd = (l.map Prod.snd).take (placeM l s) ++ (l.map Prod.snd).drop (placeM l s + 1) := by unfold delM; simp [List.map_take, List.map_drop]
end
end Go.Proofs.Ytcckfdhajbbieaa
