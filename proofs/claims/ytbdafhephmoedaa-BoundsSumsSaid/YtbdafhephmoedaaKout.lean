/- A row in new memory that comes back; a literal of three numbers; since the call began. Conditions: none beyond those typed. -/
import Derived.Test.YtbdafhephmoedaaZcol
import Derived.Test.YtbdafhephmoedaaAm
namespace Go.Proofs.Ytbdafhephmoedaa
open Go.ChangeShapes Go.WideShapes Go.ChangeAt Go.RowKit
set_option linter.unusedVariables false
set_option linter.unusedSimpArgs false
set_option maxRecDepth 100000

/-- A row in new memory comes back. -/
def RowOut {α : Type} (K : Kind α) (w : World) (l : List α) (e : Ending) (w' : World) : Prop := ∃ A n c, l.length = n ∧ e = .returned (.slice A n c) ∧ RdG K w' A n c l ∧ (∀ b o sp, A = some ⟨b, o, sp⟩ → w.heap.size ≤ b) ∧ Below w.heap.size w w'
def J64 (z : Int) : Prop := -9223372036854775808 ≤ z ∧ z ≤ 9223372036854775807
theorem Since.belowL {w0 W W' : World} {col : Col} (h : Since w0 col W) (hb : Below W.heap.size W W') : Since w0 col W' := h.step (P := fun _ => False) (StepC.below h.tidy hb) (fun h => h)
theorem RdG.ints3 (W : World) (a b c : Int) : RdG kI (W.alloc (.cells #[.int .i64 a, .int .i64 b, .int .i64 c] 3)) (some ⟨W.heap.size, 0, none⟩) 3 3 [a, b, c] := by
  refine ⟨rfl, Nat.le_refl _, by simp [maxLen], fun j x hx => ⟨_, _, rfl, fun i u hu => ?_⟩⟩
  rw [World.cell?_alloc_at _ _ _ _ rfl]
  have hi : i < 1 := (List.getElem?_eq_some_iff.1 hu).1
  obtain rfl : i = 0 := by omega
  have hu' : u = .int .i64 x := by injection hu with hu; exact hu.symm
  subst hu'
  match j, hx with
  | 0, ha => simp at ha; subst ha; rfl
  | 1, ha => simp at ha; subst ha; rfl
  | 2, ha => simp at ha; subst ha; rfl
  | j + 3, ha => simp at ha
end Go.Proofs.Ytbdafhephmoedaa
