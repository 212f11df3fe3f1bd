/- Rows of tags that a call owns: append onto them, slices.Clone, and tags.Sort. Conditions: none beyond those typed. -/
import Derived.Test.YtnmhgbdmjgejfaaTsort
import Derived.Lib.BufferMore
namespace Go.Proofs.Ytnmhgbdmjgejfaa
open Go.ChangeShapes Go.WideShapes Go.ChangeAt Go.RowKit
set_option linter.unusedVariables false
set_option maxRecDepth 100000
set_option linter.unusedSimpArgs false

theorem cellsT_append (l m : List Tg) : cellsT (l ++ m) = cellsT l ++ cellsT m := by simp [cellsT]
theorem cellsT_mem : ∀ {l : List Tg} {u : Value}, u ∈ cellsT l → u.oneCell' = true
  | [], u, h => by simp [cellsT] at h
  | t :: r, u, h => by
    have e : cellsT (t :: r) = .string t.1 :: .string t.2 :: cellsT r := rfl
    rw [e] at h
    rcases List.mem_cons.1 h with rfl | h
    · rfl
    · rcases List.mem_cons.1 h with rfl | h
      · rfl
      · exact cellsT_mem h
theorem cellsT_get : ∀ {l : List Tg} {j : Nat} {u : Value}, (cellsT l)[j]? = some u → ∃ i t, l[i]? = some t ∧ ((j = i * 2 ∧ u = .string t.1) ∨ (j = i * 2 + 1 ∧ u = .string t.2))
  | [], j, u, h => by simp [cellsT] at h
  | t :: r, 0, u, h => ⟨0, t, rfl, .inl ⟨rfl, (Option.some.inj h).symm⟩⟩
  | t :: r, 1, u, h => ⟨0, t, rfl, .inr ⟨rfl, (Option.some.inj h).symm⟩⟩
  | t :: r, j + 2, u, h => by
    have e : cellsT (t :: r) = .string t.1 :: .string t.2 :: cellsT r := rfl
    rw [e] at h
    obtain ⟨i, x, hx, hh⟩ := cellsT_get (l := r) (j := j) (u := u) (by simpa using h)
    refine ⟨i + 1, x, by simpa using hx, ?_⟩
    rcases hh with ⟨h1, h2⟩ | ⟨h1, h2⟩
    · exact .inl ⟨by omega, h2⟩
    · exact .inr ⟨by omega, h2⟩

section
variable {w w' : World} {base : Nat} {v : Value} {l : List Tg}
end

section
variable {w : World}
end

end Go.Proofs.Ytnmhgbdmjgejfaa
