/- Rows of texts; cutting a row whose elements are one cell each. Conditions: none beyond those typed. -/
import Derived.Test.YtbdafhephmoedaaKrow
namespace Go.Proofs.Ytbdafhephmoedaa
open Go.ChangeShapes Go.WideShapes Go.ChangeAt Go.RowKit
set_option linter.unusedVariables false
set_option linter.unusedSimpArgs false

section
variable {α : Type} {K : Kind α} {w : World} {A : Option Addr} {n c : Nat} {l : List α}
/-- b[i:] of whatever b, as the model slices. -/
theorem RdG.dropM (hK : K.k = 1) (h : RdG K w A n c l) {i : Nat} (hi : i ≤ n) : RdG K w (if c = i then A else A.map fun x => x.add i) (n - i) (c - i) (l.drop i) := by
  by_cases hn : n - i = 0
  · have hl := h.len
    have hm := h.max
    rw [hn, List.drop_eq_nil_of_le (by omega)]
    exact RdG.nil _ _ _ (by simp only [maxLen]; omega)
  · obtain ⟨b, o, _, rfl, _⟩ := h.at_ (j := 0) (by omega)
    have := h.dropIf hi
    rw [hK, Nat.mul_one] at this
    rw [Option.map_some, Addr.add_lit]
    exact this
end
end Go.Proofs.Ytbdafhephmoedaa
