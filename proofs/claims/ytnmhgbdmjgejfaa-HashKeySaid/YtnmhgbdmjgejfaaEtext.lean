/- Strings appended onto owned rows of bytes; event.appendText. Conditions: none beyond those typed. -/
import Derived.Test.YtnmhgbdmjgejfaaVappend
import Derived.Test.YtnmhgbdmjgejfaaEmath
import Derived.Test.YtnmhgbdmjgejfaaBmem
import Derived.Lib.AppendStr
namespace Go.Proofs.Ytnmhgbdmjgejfaa
open Go.ChangeShapes Go.WideShapes Go.ChangeAt Go.RowKit
set_option linter.unusedVariables false
set_option linter.unusedSimpArgs false
set_option maxRecDepth 100000

theorem strCells_sB (s : ByteArray) : Lib.strCells s = (sB s).map (Value.int .u8) := by
  unfold Lib.strCells sB
  rw [List.map_map]
  rfl
theorem below_from {B : Nat} {w w' : World} (h : Below B w.drew w') : Below B w w' := ⟨h.os, h.tape, h.output, h.size, h.block⟩
section
variable {w w' : World} {base : Nat} {v : Value} {l : List Int}
theorem Own.weaken {base' : Nat} (h : Own w base v l) (hb : base' ≤ base) : Own w base' v l := by
  refine ⟨⟨h.1.1, ?_⟩, h.2⟩
  rcases h.1.2 with h0 | ⟨g, cap, cur, h1, h2, h3⟩
  · exact .inl h0
  · exact .inr ⟨g, cap, cur, h1, by omega, h3⟩
theorem Own.grown {row : Option Nat} (h : Own w base v l) (hg : w.grownBy w' row) (hr : v.ownBlock = none ∨ v.ownBlock ≠ row) : Own w' base v l := ⟨h.1.kept (row := row) hg hr, h.2⟩
end

end Go.Proofs.Ytnmhgbdmjgejfaa
