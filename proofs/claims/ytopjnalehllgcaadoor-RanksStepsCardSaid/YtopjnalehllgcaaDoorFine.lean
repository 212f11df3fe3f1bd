/- Finer colours: an object whose blocks have the colours k .. k+15 holds objects of its own, each with colours of its own in a second colouring. Conditions: none beyond those typed. -/
import Derived.Test.YtopjnalehllgcaaDoorZcol
namespace Go.Proofs.YtopjnalehllgcaaDoor
open Go.ChangeShapes Go.WideShapes Go.ChangeAt Go.RowKit
set_option linter.unusedVariables false
set_option linter.unusedSimpArgs false

/-- c2 parts the blocks that have the colours of k in col; what lies outside has colour 1, what nobody writes colour 0. -/
def Fine (k : Nat) (col c2 : Col) : Prop := ∀ b, (col b = 0 → c2 b = 0) ∧ (Rng k (col b) → c2 b ≠ 0) ∧ (col b ≠ 0 → ¬ Rng k (col b) → c2 b = 1)
instance (k c : Nat) : Decidable (Rng k c) := inferInstanceAs (Decidable (_ ∧ _))
/-- Colours for blocks that are not parted yet. -/
def fineOf (k : Nat) (col : Col) : Col := fun b => if col b = 0 then 0 else if Rng k (col b) then 2 else 1
section
variable {P P2 : Nat → Prop} {col col' c2 c2' : Col} {w w' : World} {k : Nat}
theorem fineOf_fine (hk : 1 ≤ k) (col : Col) : Fine k col (fineOf k col) := fun b => by
  unfold fineOf
  refine ⟨fun h => if_pos h, fun h => ?_, fun h h' => ?_⟩
  · rw [if_neg (fun e => by rw [e] at h; exact rng0 hk h), if_pos h]; decide
  · rw [if_neg h, if_neg h']
theorem fineOf_tidy (ht : Tidy col w) : Tidy (fineOf k col) w := fun b hb => by unfold fineOf; rw [if_pos (ht b hb)]
/-- A step of what lies within is a step of the whole. -/
theorem Fine.out (F : Fine k col c2) (hk : 1 ≤ k) (ht : Tidy col w) (hs : StepC P2 c2 w c2' w') (hP : ∀ c, P2 c → 2 ≤ c) : ∃ col', Fine k col' c2' ∧ StepC (Rng k) col w col' w' := by
  refine ⟨fun b => if b < w.heap.size then col b else if c2' b = 0 then 0 else k, fun b => ?_, ⟨hs.os, hs.tape, hs.output, hs.size, fun b hb => if_pos hb, fun b hb => ?_, fun b hb hp => ?_⟩⟩
  · by_cases hb : b < w.heap.size
    · simp only [if_pos hb]
      rw [hs.kept b hb]
      exact F b
    · simp only [if_neg hb]
      by_cases h0 : c2' b = 0
      · simp only [if_pos h0]
        exact ⟨fun _ => h0, fun h => absurd h (rng0 hk), fun h => absurd rfl h⟩
      · simp only [if_neg h0]
        exact ⟨fun h => by omega, fun _ => h0, fun _ h => absurd (show Rng k k from ⟨Nat.le_refl _, by omega⟩) h⟩
  · have h1 := hs.size
    show (if b < w.heap.size then col b else if c2' b = 0 then 0 else k) = 0
    rw [if_neg (by omega), if_pos (hs.tidy b hb)]
  · refine hs.block b hb fun h => ?_
    have h2 := hP _ h
    obtain ⟨f1, _, f3⟩ := F b
    by_cases h0 : col b = 0
    · rw [f1 h0] at h2; omega
    · rw [f3 h0 hp] at h2; omega
/-- A step elsewhere leaves what lies within. -/
theorem Fine.inn (F : Fine k col c2) (hk : 1 ≤ k) (ht2 : Tidy c2 w) (hs : StepC P col w col' w') (hP : ∀ c, Rng k c → ¬ P c) (h0 : ¬ P 0) : ∃ c2', Fine k col' c2' ∧ StepC (fun c => c = 1) c2 w c2' w' := by
  refine ⟨fun b => if b < w.heap.size then c2 b else fineOf k col' b, fun b => ?_, ⟨hs.os, hs.tape, hs.output, hs.size, fun b hb => if_pos hb, fun b hb => ?_, fun b hb hp => ?_⟩⟩
  · by_cases hb : b < w.heap.size
    · simp only [if_pos hb]
      rw [hs.kept b hb]
      exact F b
    · simp only [if_neg hb]
      exact fineOf_fine hk col' b
  · have h1 := hs.size
    show (if b < w.heap.size then c2 b else fineOf k col' b) = 0
    rw [if_neg (by omega)]
    exact fineOf_tidy hs.tidy b hb
  · refine hs.block b hb fun h => ?_
    obtain ⟨_, f2, f3⟩ := F b
    by_cases hr : Rng k (col b)
    · exact hP _ hr h
    · by_cases he : col b = 0
      · rw [he] at h; exact h0 h
      · exact hp (f3 he hr)
end
end Go.Proofs.YtopjnalehllgcaaDoor
