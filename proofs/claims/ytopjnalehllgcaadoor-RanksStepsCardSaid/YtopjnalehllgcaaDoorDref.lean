/- The specified list (heavykeysref08.List) in memory: NewList, Place, Value, By. Conditions: none beyond those typed. -/
import Derived.Test.YtopjnalehllgcaaDoorDmath
import Derived.Test.YtopjnalehllgcaaDoorZcol
import Derived.Test.YtopjnalehllgcaaDoorAm
import Derived.Test.YtopjnalehllgcaaDoorKgrow
import Derived.BigQuiet
namespace Go.Proofs.YtopjnalehllgcaaDoor
open Go.ChangeShapes Go.WideShapes Go.ChangeAt Go.RowKit
set_option linter.unusedVariables false
set_option linter.unusedSimpArgs false
set_option maxRecDepth 100000

def CSt.ns {α : Type} (m : CSt α) : List Int := m.l.map fun p => (p.1 : Int)
section
variable {P : Nat → Prop} {col col' : Col} {w w' : World} {k g n n' : Nat} {m : CSt Int} {N N' V V' : List Int} {vN vV v' : Value} {i : Nat} {p : Nat × Int}
theorem ns_len (m : CSt Int) : m.ns.length = m.l.length := by simp [CSt.ns]
theorem vs_len (m : CSt Int) : m.vals.length = m.l.length := by simp [CSt.vals]
/-- What Place returns. -/
def plC (l : List (Nat × Int)) (z : Int) : Int := match placeC l z with | none => -1 | some i => (i : Int)
theorem plC_scan {l : List (Nat × Int)} {z : Int} {j : Nat} {p : Nat × Int} (hp : l[j]? = some p) (hb : ∀ i q, i < j → l[i]? = some q → (q.1 : Int) ≠ z) (h : (p.1 : Int) = z) : placeC l z = some j := by
  unfold placeC
  obtain ⟨hj, e⟩ := List.getElem?_eq_some_iff.1 hp
  refine List.findIdx?_eq_some_iff_getElem.2 ⟨hj, by rw [e]; simpa using h, fun i hi => ?_⟩
  have := hb i _ hi (List.getElem?_eq_getElem (by omega))
  simpa using this
theorem plC_end {l : List (Nat × Int)} {z : Int} (hb : ∀ i q, i < l.length → l[i]? = some q → (q.1 : Int) ≠ z) : placeC l z = none := by
  unfold placeC
  refine List.findIdx?_eq_none_iff.2 fun p hp => ?_
  obtain ⟨i, hi⟩ := List.mem_iff_getElem?.1 hp
  have := hb i p (List.getElem?_eq_some_iff.1 hi).1 hi
  simpa using this
end
end Go.Proofs.YtopjnalehllgcaaDoor
