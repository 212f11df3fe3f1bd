/- A box for an entry that comes back: how it is written behind other steps. Conditions: none beyond those typed. -/
import Derived.Test.YtjkomnjkolggnaaSvref2
import Derived.Test.YtjkomnjkolggnaaZpaint
namespace Go.Proofs.Ytjkomnjkolggnaa
open Go.ChangeShapes Go.WideShapes Go.ChangeAt Go.RowKit
set_option linter.unusedVariables false
set_option linter.unusedSimpArgs false

/-- An entry box that the walk has made is written. -/
theorem boxE {col : Col} {w0 W : World} {G : Nat} {a : En} (X3 : BoxC col W G 0 (VE a) 32) (h : w0.heap.size ≤ G) (hb : Below w0.heap.size w0 W) (e : En) :
    (((W.setCell ⟨G, 0, none⟩ (.string e.1)).setCell ⟨G, 1, none⟩ (.int .u64 e.2.1)).setCell ⟨G, 2, none⟩ (.int .u64 e.2.2)).heap[G]? = some (.cells (VE e) 32 (0, 0)) ∧ Below w0.heap.size w0 (((W.setCell ⟨G, 0, none⟩ (.string e.1)).setCell ⟨G, 1, none⟩ (.int .u64 e.2.1)).setCell ⟨G, 2, none⟩ (.int .u64 e.2.2)) ∧
      W.cell? ⟨G, 0, none⟩ = some (.string a.1) ∧ W.cell? ⟨G, 1, none⟩ = some (.int .u64 a.2.1) ∧ W.cell? ⟨G, 2, none⟩ = some (.int .u64 a.2.2) ∧ W.frozen? ⟨G, 0, none⟩ = false ∧ W.frozen? ⟨G, 1, none⟩ = false ∧ W.frozen? ⟨G, 2, none⟩ = false :=
  ⟨(vbox_en X3 e).heap, ((hb.setCell (p := ⟨G, 0, none⟩) h _).setCell (p := ⟨G, 1, none⟩) h _).setCell (p := ⟨G, 2, none⟩) h _, X3.cell 0 rfl, X3.cell 1 rfl, X3.cell 2 rfl, X3.free 0, X3.free 1, X3.free 2⟩
theorem OwnK.bound {T : List Int} {v : Int} {i : Nat} (h : ∀ z ∈ T, 0 ≤ z ∧ z ≤ 18446744073709551615) (hv : 0 ≤ v ∧ v ≤ 18446744073709551615) : ∀ z ∈ T.set i v, 0 ≤ z ∧ z ≤ 18446744073709551615 := fun z hz => by
  rcases List.mem_or_eq_of_mem_set hz with h1 | h1
  · exact h z h1
  · rw [h1]; exact hv
/-- A result's box of colour 2 is written behind an object's steps. -/
theorem vboxed {P : Nat → Prop} {c2 c3 : Col} {w W : World} {G : Nat} {a : En} (S : StepC P c2 w c3 W) (X3 : BoxC c3 W G 2 (VE a) 32) (h : w.heap.size ≤ G) (e : En) :
    StepC (fun d => d = 2) c3 W c3 (((W.setCell ⟨G, 0, none⟩ (.string e.1)).setCell ⟨G, 1, none⟩ (.int .u64 e.2.1)).setCell ⟨G, 2, none⟩ (.int .u64 e.2.2)) ∧ StepC P c2 w c3 (((W.setCell ⟨G, 0, none⟩ (.string e.1)).setCell ⟨G, 1, none⟩ (.int .u64 e.2.1)).setCell ⟨G, 2, none⟩ (.int .u64 e.2.2)) ∧ (((W.setCell ⟨G, 0, none⟩ (.string e.1)).setCell ⟨G, 1, none⟩ (.int .u64 e.2.1)).setCell ⟨G, 2, none⟩ (.int .u64 e.2.2)).heap[G]? = some (.cells (VE e) 32 (0, 0)) ∧
      W.cell? ⟨G, 0, none⟩ = some (.string a.1) ∧ W.cell? ⟨G, 1, none⟩ = some (.int .u64 a.2.1) ∧ W.cell? ⟨G, 2, none⟩ = some (.int .u64 a.2.2) ∧ W.frozen? ⟨G, 0, none⟩ = false ∧ W.frozen? ⟨G, 1, none⟩ = false ∧ W.frozen? ⟨G, 2, none⟩ = false := by
  have u1 := StepC.set (P := fun d => d = 2) (a := ⟨G, 0, none⟩) S.tidy X3.col (.string e.1)
  have u2 := StepC.set (P := fun d => d = 2) (a := ⟨G, 1, none⟩) u1.tidy X3.col (.int .u64 e.2.1)
  have u3 := StepC.set (P := fun d => d = 2) (a := ⟨G, 2, none⟩) u2.tidy X3.col (.int .u64 e.2.2)
  have g1 := StepC.inNew (a := ⟨G, 0, none⟩) S h (.string e.1)
  have g2 := StepC.inNew (a := ⟨G, 1, none⟩) g1 h (.int .u64 e.2.1)
  have g3 := StepC.inNew (a := ⟨G, 2, none⟩) g2 h (.int .u64 e.2.2)
  exact ⟨(u1.trans u2).trans u3, g3, (vbox_en X3 e).heap, X3.cell 0 rfl, X3.cell 1 rfl, X3.cell 2 rfl, X3.free 0, X3.free 1, X3.free 2⟩
end Go.Proofs.Ytjkomnjkolggnaa
