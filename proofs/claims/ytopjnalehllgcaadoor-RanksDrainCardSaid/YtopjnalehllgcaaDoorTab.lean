/- The table that math/bits.TrailingZeros64 reads, as its initialiser lays it, in a world; it stays. Conditions: none beyond those typed. -/
import Derived.Test.YtopjnalehllgcaaDoorZcol
import Derived.Lib.TrailingZeros
namespace Go.Proofs.YtopjnalehllgcaaDoor
open Go.ChangeShapes Go.WideShapes Go.ChangeAt Go.RowKit
set_option linter.unusedVariables false
set_option linter.unusedSimpArgs false

def Tab (w : World) : Prop := ∀ j, j < 64 → w.cell? ⟨0, j, none⟩ = some (.int .u8 (Lib.deBruijn64tab.getD j 0))
/-- The table lies in a block that nobody writes. -/
structure TbC (col : Col) (w : World) : Prop where
  tab : Tab w
  col0 : col 0 = 0
section
variable {P : Nat → Prop} {col col' : Col} {w w' w0 : World}
theorem Tab.lt (h : Tab w) : 0 < w.heap.size := World.block_lt_of_cell? w _ (h 0 (by omega))
theorem TbC.keep (h : TbC col w) (hs : StepC P col w col' w') (h0 : ¬ P 0) : TbC col' w' :=
  ⟨fun j hj => hs.cell (h.tab j hj) (by show ¬ P (col 0); rw [h.col0]; exact h0), (hs.kept _ h.tab.lt).trans h.col0⟩
theorem Since.tb (h : Since w0 col w) (hT : Tab w0) : TbC col w :=
  ⟨fun j hj => (World.cell?_of_block (w := w0) (h.below.block _ hT.lt)).trans (hT j hj), h.elder _ hT.lt⟩
theorem Since.tab (h : Since w0 col w) (hT : Tab w0) : Tab w := (h.tb hT).tab
theorem Tab.below (h : Tab w) (hb : Below w.heap.size w w') : Tab w' := fun j hj => (World.cell?_of_block (w := w) (hb.block _ h.lt)).trans (h j hj)
end
end Go.Proofs.YtopjnalehllgcaaDoor
