/- The specified list (heavykeysref08.List) in memory: Remove. Conditions: none beyond those typed. -/
import Derived.Test.YtopjnalehllgcaaDoorDref2
namespace Go.Proofs.YtopjnalehllgcaaDoor
open Go.ChangeShapes Go.WideShapes Go.ChangeAt Go.RowKit
set_option linter.unusedVariables false
set_option linter.unusedSimpArgs false
set_option maxRecDepth 100000

section
variable {P : Nat → Prop} {col col' : Col} {w w' : World} {k g n : Nat} {m : CSt Int} {vN vV v' : Value} {i : Nat} {p : Nat × Int}
theorem rem_ns (l : List (Nat × Int)) (i : Nat) : (remC l i).map (fun p => (p.1 : Int)) = (l.map fun p => (p.1 : Int)).take i ++ (l.map fun p => (p.1 : Int)).drop (i + 1) := by unfold remC; simp [List.map_take, List.map_drop]
theorem rem_vs (l : List (Nat × Int)) (i : Nat) : (remC l i).map Prod.snd = (l.map Prod.snd).take i ++ (l.map Prod.snd).drop (i + 1) := by unfold remC; simp [List.map_take, List.map_drop]
end
end Go.Proofs.YtopjnalehllgcaaDoor
