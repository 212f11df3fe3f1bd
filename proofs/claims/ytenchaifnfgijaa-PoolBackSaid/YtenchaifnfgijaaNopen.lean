/- A []string as a statement's argument. Conditions: none beyond those typed. -/
import Derived.Test.YtenchaifnfgijaaLift
import Derived.Test.YtenchaifnfgijaaNback
import Derived.SliceStrings
namespace Go.Proofs.Ytenchaifnfgijaa
open Go.ChangeShapes Go.WideShapes Go.ChangeAt Go.RowKit
set_option linter.unusedVariables false
set_option linter.unusedSimpArgs false
theorem open_strs {H : Type} {enc : TypeId × Value → H} {W : World} {A : Option Addr} {n c : Nat} {d : DataW H} {p : List MemPlace} (h : DataW.Trod enc Try.prog W 0 (fun _ => true) true 59 (.slice A n c) d p) : ArgS W A n c := by
  obtain ⟨fuel, hf⟩ := h
  rcases open_strings Try.underlying59 Try.underlying9 (by kernel_rfl) hf with ⟨hcs, _⟩ | ⟨a, len, cap, ss, hcs, _, hl, hm, hz, _, hcell, hsz⟩
  · simp [Value.cells] at hcs
    obtain ⟨rfl, rfl, rfl⟩ := hcs
    exact ArgS.none W
  · simp [Value.cells] at hcs
    obtain ⟨rfl, rfl, rfl⟩ := hcs
    simp only [if_true] at hz
    refine ⟨hl, hm, fun j hj => ?_⟩
    have hc := hcell j (by omega)
    obtain ⟨b, o, sp⟩ := a
    have hs : sp = Option.none := by
      have h0 := World.cell?_spot (hcell 0 (by omega))
      simpa [Addr.add] using h0
    subst hs
    rw [Go.WideShapes.add_plain] at hc
    have hj' : j < ss.length := by omega
    refine ⟨b, o, ss[j], rfl, ?_, hsz _ (List.getElem_mem hj')⟩
    rw [hc]
    simp [List.getD, List.getElem?_eq_getElem hj']
end Go.Proofs.Ytenchaifnfgijaa
