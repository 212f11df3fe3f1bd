/- The specified list (heavykeysref08.List) in memory: NewList, Value, By, Insert, InsertAfter. Conditions: none beyond those typed. -/
import Derived.Test.YtopjnalehllgcaaDoorDref
import Derived.Deep.RegionHeld3
import Derived.Deep.CutRange
namespace Go.Proofs.YtopjnalehllgcaaDoor
open Go.ChangeShapes Go.WideShapes Go.ChangeAt Go.RowKit
set_option linter.unusedVariables false
set_option linter.unusedSimpArgs false
set_option maxRecDepth 100000

section
variable {P : Nat → Prop} {col col' : Col} {w w' : World} {k g n : Nat} {m : CSt Int} {vN vV v' : Value} {i : Nat} {p : Nat × Int}
def lstE (n : Int) : Int := if n < 1 ∨ 8192 < n then 1 else 0
theorem plC_none {l : List (Nat × Int)} {z : Int} (h : placeC l z = none) : plC l z = -1 := by unfold plC; rw [h]
theorem plC_some {l : List (Nat × Int)} {z : Int} {i : Nat} (h : placeC l z = some i) : plC l z = (i : Int) := by unfold plC; rw [h]
theorem ins_ns (l : List (Nat × Int)) (i : Nat) (v : Int) : (insC l i v).map (fun p => (p.1 : Int)) = ((l.map fun p => (p.1 : Int)).take i ++ [(freeN (l.map Prod.fst) : Int)]) ++ (l.map fun p => (p.1 : Int)).drop i := by unfold insC; simp [List.map_take, List.map_drop]
theorem ins_vs (l : List (Nat × Int)) (i : Nat) (v : Int) : (insC l i v).map Prod.snd = ((l.map Prod.snd).take i ++ [v]) ++ (l.map Prod.snd).drop i := by unfold insC; simp [List.map_take, List.map_drop]
theorem insA_none {z v : Int} (h : placeC m.l z = none) : m.insA z v = ((0, 8), m) := by unfold CSt.insA; rw [h]
theorem insA_some {z v : Int} {i : Nat} (h : placeC m.l z = some i) : m.insA z v = m.ins (i + 1) v := by unfold CSt.insA; rw [h]
end
end Go.Proofs.YtopjnalehllgcaaDoor
