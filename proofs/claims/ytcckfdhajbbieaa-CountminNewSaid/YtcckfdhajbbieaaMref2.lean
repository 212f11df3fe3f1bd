/- The specified table (heavykeysref08.Map) in memory: Put. Conditions: none beyond those typed. -/
import Derived.Test.YtcckfdhajbbieaaMref
import Derived.Test.YtcckfdhajbbieaaKgrow
import Derived.Deep.RegionHeld3
import Derived.Deep.CutRange
namespace Go.Proofs.Ytcckfdhajbbieaa
open Go.ChangeShapes Go.WideShapes Go.ChangeAt Go.RowKit
set_option linter.unusedVariables false
set_option linter.unusedSimpArgs false
set_option maxRecDepth 100000

section
variable {P : Nat → Prop} {col col' : Col} {w w' : World} {k g n : Nat} {m : MSt Int} {vK vV v' : Value} {s : ByteArray} {i : Nat} {p : ByteArray × Int}
theorem put_set {u : Int} (h : m.look s = some u) (v : Int) : m.put s v = (0, { m with l := setM m.l s v }) := by unfold MSt.put; rw [h]
theorem put_full (h : m.look s = none) (hn : m.l.length = m.n) (v : Int) : m.put s v = (7, m) := by unfold MSt.put; rw [h]; exact if_pos hn
theorem put_add (h : m.look s = none) (hn : m.l.length ≠ m.n) (v : Int) : m.put s v = (0, { m with l := addM m.l s v }) := by unfold MSt.put; rw [h]; exact if_neg hn
theorem set_vals (l : List (ByteArray × Int)) (s : ByteArray) (v : Int) : (setM l s v).map Prod.snd = (l.map Prod.snd).set (placeM l s) v := by unfold setM; rw [List.map_set]
theorem add_keys (l : List (ByteArray × Int)) (s : ByteArray) (v : Int) : (addM l s v).map Prod.fst = ((l.map Prod.fst).take (placeM l s) ++ [s]) ++ (l.map Prod.fst).drop (placeM l s) := by unfold addM; simp [List.map_take, List.map_drop]
theorem add_vals (l : List (ByteArray × Int)) (s : ByteArray) (v : Int) : (addM l s v).map Prod.snd = ((l.map Prod.snd).take (placeM l s) ++ [v]) ++ (l.map Prod.snd).drop (placeM l s) := by unfold addM; simp [List.map_take, List.map_drop]
end
end Go.Proofs.Ytcckfdhajbbieaa
