/- Texts as a statement's argument; a row of texts, read. Conditions: none beyond those typed. -/
import Derived.Test.YtfbddcbbkfklnaaDoorKtext
namespace Go.Proofs.YtfbddcbbkfklnaaDoor
open Go.ChangeShapes Go.WideShapes Go.ChangeAt Go.RowKit
set_option linter.unusedVariables false
set_option linter.unusedSimpArgs false

/-- Texts that came in. -/
def ArgS (w : World) (A : Option Addr) (n c : Nat) : Prop := n ≤ c ∧ c ≤ maxLen ∧ ∀ j, j < n → ∃ b o s, A = some ⟨b, o, none⟩ ∧ w.cell? ⟨b, o + j, none⟩ = some (.string s) ∧ s.size ≤ maxLen
theorem ArgS.none (w : World) : ArgS w none 0 0 := ⟨Nat.le_refl _, by simp [maxLen], fun j hj => absurd hj (by omega)⟩
theorem RdG.atT {w : World} {A : Option Addr} {n c : Nat} {l : List ByteArray} {j : Nat} (h : RdG kT w A n c l) (hj : j < n) : ∃ b o p, A = some ⟨b, o, none⟩ ∧ l[j]? = some p ∧ p ∈ l ∧ b < w.heap.size ∧ w.cell? ⟨b, o + j, none⟩ = some (.string p) := by
  obtain ⟨b, o, p, hA, hl, hm, hb, hc⟩ := h.at_ hj
  have c0 := hc 0 _ rfl
  simp only [show kT.k = 1 from rfl, Nat.mul_one, Nat.add_zero] at c0
  exact ⟨b, o, p, hA, hl, hm, hb, c0⟩
end Go.Proofs.YtfbddcbbkfklnaaDoor
