/- Rows of numbers of 64 bits without a sign. Conditions: none beyond those typed. -/
import Derived.Test.YtcckfdhajbbieaaKrow
import Derived.Test.YtcckfdhajbbieaaUrow
namespace Go.Proofs.Ytcckfdhajbbieaa
open Go.ChangeShapes Go.WideShapes Go.ChangeAt Go.RowKit
set_option linter.unusedVariables false
set_option linter.unusedSimpArgs false

/-- Numbers of 64 bits as elements. -/
def kU : Kind Int where
  ty := 34
  sl := 22
  k := 1
  by_ := 8
  zero := .int .u64 0
  enc := fun z => [.int .u64 z]
  pos := by omega
  len := fun _ => rfl
  one := fun a u hu => by rw [List.mem_singleton.1 hu]; rfl
  under := Try.underlying22
  info := by kernel_rfl
  zk := rfl
  small := by omega
theorem RdU.toK {w : World} {A : Option Addr} {n c : Nat} {l : List Int} (h : RdU w A n c l) : RdG kU w A n c l := by
  refine ⟨h.1, h.2.1, h.2.2.1, fun j a ha => ?_⟩
  obtain ⟨b, o, hA, hc⟩ := h.2.2.2.2 j a ha
  refine ⟨b, o, hA, fun i u hu => ?_⟩
  have hi : i < 1 := (List.getElem?_eq_some_iff.1 hu).1
  obtain rfl : i = 0 := by omega
  have hu' : Value.int .u64 a = u := by injection hu
  rw [show kU.k = 1 from rfl, Nat.mul_one, Nat.add_zero, ← hu']
  exact hc
theorem RdU.ofK {w : World} {A : Option Addr} {n c : Nat} {l : List Int} (h : RdG kU w A n c l) (hb : ∀ z ∈ l, 0 ≤ z ∧ z ≤ 18446744073709551615) : RdU w A n c l := by
  refine ⟨h.1, h.2.1, h.2.2.1, hb, fun j a ha => ?_⟩
  obtain ⟨b, o, hA, hc⟩ := h.2.2.2 j a ha
  refine ⟨b, o, hA, ?_⟩
  have := hc 0 (.int .u64 a) rfl
  rw [show kU.k = 1 from rfl, Nat.mul_one, Nat.add_zero] at this
  exact this
end Go.Proofs.Ytcckfdhajbbieaa
