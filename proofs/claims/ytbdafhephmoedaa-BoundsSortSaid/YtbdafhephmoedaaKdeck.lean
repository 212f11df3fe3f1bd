/- A deck beside other objects: it lies in a block of colour 1. Conditions: none beyond those typed. -/
import Derived.Test.YtbdafhephmoedaaZcol
import Derived.Test.YtbdafhephmoedaaEdeck
namespace Go.Proofs.Ytbdafhephmoedaa
open Go.ChangeShapes Go.WideShapes Go.ChangeAt Go.RowKit
set_option linter.unusedVariables false
set_option linter.unusedSimpArgs false

/-- Nothing elder has turned; the deck lies in a block of colour 1. -/
structure DkS (w : World) (col : Col) (W : World) (gd : Nat) (A : Option Addr) (m d : Nat) : Prop where
  since : Since w col W
  dk : Dk w W gd A m d
  dc : col gd = 1
section
variable {w W W' : World} {col col' : Col} {gd m d : Nat} {A : Option Addr} {P : Nat → Prop}
theorem DkS.tidy (h : DkS w col W gd A m d) : Tidy col W := h.since.tidy
theorem DkS.new (h : RdI w A m d) : DkS w (dye (fun _ => 0) (some w.heap.size) 1) (w.alloc (.cells #[.slice A m d, .int .i64 0] 50)) w.heap.size A m d :=
  ⟨(Since.start w).step (StepC.new (fun _ _ => rfl) _ 1 (fun _ => False)) (fun h => h), Dk.new h, dye_of⟩
theorem DkS.step (h : DkS w col W gd A m d) (s : StepC P col W col' W') (h1 : ¬ P 1) (hz : ¬ P 0) : DkS w col' W' gd A m d := by
  have hs := h.since.step s hz
  obtain ⟨d1, d2, d3, a, hD⟩ := h.dk
  exact ⟨hs, ⟨d1, hs.below, d3, a, hD.far (s.block gd hD.lt (by rw [h.dc]; exact h1))⟩, (s.kept gd hD.lt).trans h.dc⟩
theorem DkS.below (h : DkS w col W gd A m d) (hb : Below W.heap.size W W') : DkS w col W' gd A m d := h.step (P := fun _ => False) (StepC.below h.tidy hb) (fun h => h) (fun h => h)
/-- Behind a call of the deck's. -/
theorem DkS.deck (h : DkS w col W gd A m d) (hD : Dk w W' gd A m d) (hg : W.grownBy W' (some gd)) : DkS w col W' gd A m d ∧ StepC (fun c => c = 1) col W col W' := by
  have s : StepC (fun c => c = 1) col W col W' := StepC.grownBy h.tidy hg fun q e => by injection e with e; subst e; exact h.dc
  exact ⟨⟨h.since.step s (by omega), hD, h.dc⟩, s⟩
end
end Go.Proofs.Ytbdafhephmoedaa
