/- Entries in memory; the specified table in memory: the box, place, Exact, Untracked, Total, New. Conditions: none beyond those typed. -/
import Derived.Test.YtbdafhephmoedaaSvgood
import Derived.Test.YtbdafhephmoedaaZcol
import Derived.Test.YtbdafhephmoedaaKgrow
import Derived.Test.YtbdafhephmoedaaKmake
import Derived.Test.YtbdafhephmoedaaBm
namespace Go.Proofs.Ytbdafhephmoedaa
open Go.ChangeShapes Go.WideShapes Go.ChangeAt Go.RowKit
set_option linter.unusedVariables false
set_option linter.unusedSimpArgs false
set_option maxRecDepth 100000

def enE (e : En) : List Value := [.string e.1, .int .u64 e.2.1, .int .u64 e.2.2]
/-- An entry as the cells of a box. -/
abbrev VE (e : En) : Array Value := #[.string e.1, .int .u64 e.2.1, .int .u64 e.2.2]
def placeI (l : List En) (k : ByteArray) : Int := match placeE l k with | none => -1 | some i => (i : Int)
theorem str_eq_en {a b : ByteArray} : (a.toList == b.toList) = decide (a = b) := str_beq a b
theorem placeE_at {l : List En} {k : ByteArray} {i : Nat} {e : En} (hi : l[i]? = some e) (he : e.1 = k) (hno : ∀ (j : Nat) (x : En), j < i → l[j]? = some x → x.1 ≠ k) : placeE l k = some i := by
  unfold placeE
  obtain ⟨hil, hie⟩ := List.getElem?_eq_some_iff.1 hi
  refine List.findIdx?_eq_some_iff_getElem.2 ⟨hil, by rw [hie]; exact decide_eq_true he, fun j hj => ?_⟩
  have := hno j _ hj (List.getElem?_eq_getElem (by omega))
  simpa using this
theorem placeE_gone {l : List En} {k : ByteArray} (hno : ∀ (j : Nat) (x : En), l[j]? = some x → x.1 ≠ k) : placeE l k = none := by
  unfold placeE
  refine List.findIdx?_eq_none_iff.2 fun x hx => ?_
  obtain ⟨j, hj⟩ := List.mem_iff_getElem?.1 hx
  exact decide_eq_false (hno j x hj)
section
variable {P : Nat → Prop} {col col' : Col} {w w' : World} {k g : Nat} {t : TSt} {A : Option Addr} {c : Nat}
end
end Go.Proofs.Ytbdafhephmoedaa
