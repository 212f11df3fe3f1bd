/- New blocks get a colour; stores into new blocks. Conditions: none beyond those typed. -/
import Derived.Test.YtbdafhephmoedaaZcol
namespace Go.Proofs.Ytbdafhephmoedaa
open Go.ChangeShapes Go.WideShapes Go.ChangeAt Go.RowKit
set_option linter.unusedVariables false
set_option linter.unusedSimpArgs false

section
variable {col col' : Col} {w w' : World}
/-- A new block gets a colour. -/
theorem StepC.paint {P : Nat → Prop} {G d : Nat} (h : StepC P col w col' w') (h1 : w.heap.size ≤ G) (h2 : G < w'.heap.size) : StepC P col w (dye col' (some G) d) w' :=
  ⟨h.os, h.tape, h.output, h.size, fun b hb => by rw [dye_no (fun e => by injection e with e; omega)]; exact h.kept b hb, fun b hb => by rw [dye_no (fun e => by injection e with e; omega)]; exact h.tidy b hb, h.block⟩
theorem StepC.inNew {P : Nat → Prop} {a : Addr} (h : StepC P col w col' w') (h1 : w.heap.size ≤ a.block) (u : Value) : StepC P col w col' (w'.setCell a u) :=
  ⟨h.os, h.tape, h.output, by have := h.size; simpa [World.setCell] using this, h.kept, h.tidy.size (by simp [World.setCell]), fun b hb hp => (Below.heap_setCell _ _ _ _ (by omega)).trans (h.block b hb hp)⟩
end
/-- A block that is one box, whatever its colour. -/
abbrev BoxN (w : World) (g : Nat) (cs : Array Value) (ty : TypeId) : Prop := BoxC (fun _ => 0) w g 0 cs ty
theorem BoxC.keepB {col : Col} {w w' : World} {g k m : Nat} {cs : Array Value} {ty : TypeId} (h : BoxC col w g k cs ty) (hb : Below m w w') (hg : g < m) : BoxC col w' g k cs ty := ⟨(hb.block g hg).trans h.heap, h.col⟩
end Go.Proofs.Ytbdafhephmoedaa
