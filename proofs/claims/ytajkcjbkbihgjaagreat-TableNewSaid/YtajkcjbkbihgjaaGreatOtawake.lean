/- The statements about package table: awake. Conditions: the program's Limit keeps its contract (ProgTbl). -/
import Derived.Test.YtajkcjbkbihgjaaGreatZ04
import Derived.Test.YtajkcjbkbihgjaaGreatZ03
import Derived.BigQuiet
namespace Go.Proofs.YtajkcjbkbihgjaaGreat
open Go.ChangeShapes Go.WideShapes Go.ChangeAt Go.RowKit
set_option linter.unusedVariables false
set_option linter.unusedSimpArgs false
set_option maxRecDepth 100000

theorem tawake_any (HL : ProgTbl) (w : World) : Calls Tryz.prog 21 #[] w fun e w' => e = .returned (.bool true) ∧ Below w.heap.size w w' := by
  have h1 := fun W => HL.limit W 1 4 10 (by simp [J64]) (by simp [J64]) (by simp [W64])
  have h2 := fun W => HL.limit W 2 4 10 (by simp [J64]) (by simp [J64]) (by simp [W64])
  have h3 := fun W => HL.limit W 1 4 12 (by simp [J64]) (by simp [J64]) (by simp [W64])
  have h4 := fun W => HL.limit W 2 4 12 (by simp [J64]) (by simp [J64]) (by simp [W64])
  simp only [show limE 1 4 10 = 2 by decide, show limE 2 4 10 = 2 by decide, show limE 1 4 12 = 3 by decide, show limE 2 4 12 = 2 by decide] at h1 h2 h3 h4
  go_enter Tryz.func21, Tryz.ntmps21
  go_wp2_with fail
  refine (h1 _).mono ?_
  rintro e w1 ⟨rfl, rfl⟩
  go_wp2_with fail
  refine (h2 _).mono ?_
  rintro e w2 ⟨rfl, rfl⟩
  go_wp2_with fail
  refine (h3 _).mono ?_
  rintro e w3 ⟨rfl, rfl⟩
  go_wp2_with fail
  refine (h4 _).mono ?_
  rintro e w4 ⟨rfl, rfl⟩
  go_wp2
  go_ret
  exact ⟨rfl, Below.refl _ _⟩
end Go.Proofs.YtajkcjbkbihgjaaGreat
