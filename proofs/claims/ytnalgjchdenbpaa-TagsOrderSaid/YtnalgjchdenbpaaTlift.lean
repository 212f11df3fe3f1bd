/- Layer 3: arguments that are slices of numbers, as the walks take them. Conditions: none beyond those typed. -/
import Derived.Test.YtnalgjchdenbpaaTlaws
import Derived.SizedLaws
import Derived.ChangeMaps5
namespace Go.Proofs.Ytnalgjchdenbpaa
open Go.ChangeShapes Go.WideShapes Go.ChangeAt Go.RowKit
set_option linter.unusedVariables false
set_option linter.unusedSimpArgs false

theorem own : ownKnob Try.prog.godebug = none := by kernel_rfl
theorem laidOut : laidOutB Try.prog = true := by kernel_rfl
theorem RdI.none (W : World) : RdI W none 0 0 := ⟨Nat.le_refl _, by simp [maxLen], fun j hj => absurd hj (by omega)⟩
theorem RdI.some {W : World} {x : Addr} {len cap : Nat} {zs : List Int} (hl : len ≤ cap) (hm : cap ≤ maxLen) (hz : zs.length = cap)
    (hcell : ∀ i, i < zs.length → W.cell? (x.add i) = some (.int .i64 (zs.getD i 0))) (hw : ∀ n ∈ zs, (Lit.int .i64 n).wf = true) : RdI W (some x) len cap := by
  refine ⟨hl, hm, fun j hj => ?_⟩
  have hjl : j < zs.length := by omega
  obtain ⟨b, off, rfl, hc⟩ := ints_at hcell (by omega)
  have hb := bounds_i64 (hw zs[j] (List.getElem_mem hjl))
  refine ⟨b, off, zs[j], rfl, ?_, hb.1, hb.2⟩
  rw [hc j hjl, List.getD_eq_getElem?_getD, List.getElem?_eq_getElem hjl]
  rfl
end Go.Proofs.Ytnalgjchdenbpaa
