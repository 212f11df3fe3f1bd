/- A slice of numbers of 64 bits that came in. Conditions: none beyond those typed. -/
import Derived.Test.YtjkomnjkolggnaaLift
import Derived.Test.YtjkomnjkolggnaaUrow
namespace Go.Proofs.Ytjkomnjkolggnaa
open Go.ChangeShapes Go.WideShapes Go.ChangeAt Go.RowKit
set_option linter.unusedVariables false
set_option linter.unusedSimpArgs false
set_option maxRecDepth 100000

/-- What a law is told of a slice of numbers of 64 bits that came in. -/
def ArgU (W : World) (A : Option Addr) (n c : Nat) : Prop := ∃ l, RdU W A n c l
theorem ArgU.none (W : World) : ArgU W none 0 0 := ⟨[], rfl, Nat.le_refl _, by simp [maxLen], fun z hz => by simp at hz, fun j z h => by simp at h⟩
theorem ArgU.some {W : World} {x : Addr} {len cap : Nat} {zs : List Int} (hl : len ≤ cap) (hm : cap ≤ maxLen) (hz : zs.length = cap)
    (hcell : ∀ i, i < zs.length → W.cell? (x.add i) = Option.some (.int .u64 (zs.getD i 0))) (hw : ∀ n ∈ zs, (Lit.int .u64 n).wf = true) : ArgU W (Option.some x) len cap := by
  refine ⟨zs.take len, by rw [List.length_take]; omega, hl, hm, fun z h => bounds_u64 (hw z (List.mem_of_mem_take h)), fun j z h => ?_⟩
  rw [List.getElem?_take] at h
  split at h
  · rename_i hj
    have hjl : j < zs.length := (List.getElem?_eq_some_iff.1 h).1
    obtain ⟨b, off, rfl, hc⟩ := ints_at hcell (by omega)
    refine ⟨b, off, rfl, ?_⟩
    rw [hc j hjl, List.getD_eq_getElem?_getD, h]
    rfl
  · cases h
end Go.Proofs.Ytjkomnjkolggnaa
