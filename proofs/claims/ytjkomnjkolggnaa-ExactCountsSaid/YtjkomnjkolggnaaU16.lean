/- Slices of numbers of 16 bits that came in. Conditions: none beyond those typed. -/
import Derived.Test.YtjkomnjkolggnaaBase
import Derived.Test.YtjkomnjkolggnaaBm
namespace Go.Proofs.Ytjkomnjkolggnaa
open Go.ChangeShapes Go.WideShapes Go.ChangeAt Go.RowKit
set_option linter.unusedVariables false
set_option linter.unusedSimpArgs false
set_option maxRecDepth 100000

/-- The slice reads as these numbers of 16 bits. -/
def Rd16 (w : World) (A : Option Addr) (n c : Nat) (l : List Int) : Prop :=
  l.length = n ∧ n ≤ c ∧ c ≤ maxLen ∧ (∀ z ∈ l, 0 ≤ z ∧ z ≤ 65535) ∧ ∀ j z, l[j]? = some z → ∃ b o, A = some ⟨b, o, none⟩ ∧ w.cell? ⟨b, o + j, none⟩ = some (.int .u16 z)
section
variable {w w' : World} {A : Option Addr} {n c j : Nat} {l : List Int}
theorem Rd16.len (h : Rd16 w A n c l) : l.length = n := h.1
theorem Rd16.cap (h : Rd16 w A n c l) : n ≤ c := h.2.1
theorem Rd16.max (h : Rd16 w A n c l) : c ≤ 9223372036854775807 := h.2.2.1
theorem Rd16.at_ (h : Rd16 w A n c l) (hj : j < n) : ∃ b o z, A = some ⟨b, o, none⟩ ∧ l[j]? = some z ∧ 0 ≤ z ∧ z ≤ 65535 ∧ w.cell? ⟨b, o + j, none⟩ = some (.int .u16 z) := by
  have hl : j < l.length := by rw [h.1]; exact hj
  have hg := List.getElem?_eq_getElem hl
  obtain ⟨b, o, hA, hc⟩ := h.2.2.2.2 j _ hg
  obtain ⟨h0, h1⟩ := h.2.2.2.1 _ (List.getElem_mem hl)
  exact ⟨b, o, _, hA, hg, h0, h1, hc⟩
theorem Rd16.below (h : Rd16 w A n c l) (hb : Below w.heap.size w w') : Rd16 w' A n c l := by
  refine ⟨h.1, h.2.1, h.2.2.1, h.2.2.2.1, fun j z hz => ?_⟩
  obtain ⟨b, o, hA, hc⟩ := h.2.2.2.2 j z hz
  exact ⟨b, o, hA, (hb.cell (World.block_lt_of_cell? _ _ hc)).trans hc⟩
end
/-- What a law is told of such a slice. -/
def Arg16 (W : World) (A : Option Addr) (n c : Nat) : Prop := ∃ l, Rd16 W A n c l
theorem Arg16.none (W : World) : Arg16 W none 0 0 := ⟨[], rfl, Nat.le_refl _, by simp [maxLen], fun z hz => by simp at hz, fun j z h => by simp at h⟩
theorem Arg16.some {W : World} {x : Addr} {len cap : Nat} {zs : List Int} (hl : len ≤ cap) (hm : cap ≤ maxLen) (hz : zs.length = cap)
    (hcell : ∀ i, i < zs.length → W.cell? (x.add i) = Option.some (.int .u16 (zs.getD i 0))) (hw : ∀ n ∈ zs, (Lit.int .u16 n).wf = true) : Arg16 W (Option.some x) len cap := by
  refine ⟨zs.take len, by rw [List.length_take]; omega, hl, hm, fun z h => bounds_u16 (hw z (List.mem_of_mem_take h)), fun j z h => ?_⟩
  rw [List.getElem?_take] at h
  split at h
  · rename_i hj
    have hjl : j < zs.length := (List.getElem?_eq_some_iff.1 h).1
    obtain ⟨b, off, rfl, hc⟩ := ints_at hcell (by omega)
    refine ⟨b, off, rfl, ?_⟩
    rw [hc j hjl, List.getD_eq_getElem?_getD, h]
    rfl
  · cases h
end Go.Proofs.Ytjkomnjkolggnaa
