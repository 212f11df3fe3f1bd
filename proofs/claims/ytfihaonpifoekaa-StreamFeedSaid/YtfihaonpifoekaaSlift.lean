/- A slice of slices of bytes that came in. Conditions: none beyond those typed. -/
import Derived.Test.YtfihaonpifoekaaLift
namespace Go.Proofs.Ytfihaonpifoekaa
open Go.ChangeShapes Go.WideShapes Go.ChangeAt Go.RowKit
set_option linter.unusedVariables false
set_option linter.unusedSimpArgs false
set_option maxRecDepth 100000

theorem Rd.some {W : World} {x : Addr} {len cap : Nat} {zs : List Int} (hl : len ≤ cap) (hz : zs.length = cap) (hc : cap ≤ maxLen)
    (hcell : ∀ i, i < zs.length → W.cell? (x.add i) = Option.some (.int .u8 (zs.getD i 0))) (hw : ∀ n ∈ zs, (Lit.int .u8 n).wf = true) : ∃ l, Rd W (Option.some x) len cap l := by
  refine ⟨zs.take len, by rw [List.length_take]; omega, hl, hc, fun z h => bounds_u8 (hw z (List.mem_of_mem_take h)), fun j z h => ?_⟩
  rw [List.getElem?_take] at h
  split at h
  · rename_i hj
    have hjl : j < zs.length := (List.getElem?_eq_some_iff.1 h).1
    obtain ⟨b, off, rfl, hc⟩ := ints_at hcell (by omega)
    refine ⟨b, off, rfl, ?_⟩
    rw [hc j hjl, List.getD_eq_getElem?_getD, h]
    rfl
  · cases h
/-- What a law is told of a slice of slices of bytes that came in. -/
def ArgB (W : World) (A : Option Addr) (n c : Nat) : Prop :=
  n ≤ c ∧ c ≤ maxLen ∧ ∀ j, j < n → ∃ b o A' n' c' l, A = some ⟨b, o, none⟩ ∧ W.cell? ⟨b, o + j, none⟩ = some (.slice A' n' c') ∧ Rd W A' n' c' l
theorem ArgB.none (W : World) : ArgB W none 0 0 := ⟨Nat.le_refl _, by simp [maxLen], fun j hj => absurd hj (by omega)⟩
theorem ArgB.below {W W' : World} {A : Option Addr} {n c : Nat} (h : ArgB W A n c) (hb : Below W.heap.size W W') : ArgB W' A n c :=
  ⟨h.1, h.2.1, fun j hj => by
    obtain ⟨b, o, A', n', c', l, hA, h0, h1⟩ := h.2.2 j hj
    exact ⟨b, o, A', n', c', l, hA, (hb.cell (World.block_lt_of_cell? _ _ h0)).trans h0, h1.below hb⟩⟩
theorem open_bytess {H : Type} {enc : TypeId × Value → H} {W : World} {A : Option Addr} {n c : Nat} {d : DataW H} {p : List MemPlace} (h : DataW.Trod enc Try.prog W 0 (fun _ => true) true 22 (.slice A n c) d p) : ArgB W A n c := by
  obtain ⟨fuel, hf⟩ := h
  have e1 : Try.prog.cellsOf 25 = 1 := by kernel_rfl
  rcases DataW.trod_slice Try.underlying22 hf with ⟨hcs, _⟩ | ⟨a, len, cap, elems, rest, m, _, hcs, _, _, hl, hm, hel, hget, _, _⟩
  · simp [Value.cells] at hcs
    obtain ⟨rfl, rfl, rfl⟩ := hcs
    exact ArgB.none W
  · simp [Value.cells] at hcs
    obtain ⟨rfl, rfl, rfl⟩ := hcs
    refine ⟨hl, hm, fun j hj => ?_⟩
    have hspot : a.spot = Option.none := by
      have hg := hget 0 (by omega)
      rw [e1, Nat.mul_one] at hg
      have hx : elems[0]? = some (elems[0]'(by omega)) := List.getElem?_eq_getElem (by omega)
      rw [hx] at hg
      obtain ⟨cs, hcells, htr⟩ := Option.bind_eq_some_iff.1 hg
      obtain ⟨_, hlen, hcell⟩ := World.cells?_some hcells
      have h0 := hcell 0 (by omega)
      have hcs : cs[0]? = some (cs[0]'(by omega)) := List.getElem?_eq_getElem (by omega)
      rw [hcs] at h0
      simpa [Addr.add] using World.cell?_spot h0
    have hg := hget j hj
    rw [e1, Nat.mul_one] at hg
    have hx : elems[j]? = some (elems[j]'(by omega)) := List.getElem?_eq_getElem (by omega)
    rw [hx] at hg
    obtain ⟨cs, hcells, htr⟩ := Option.bind_eq_some_iff.1 hg
    obtain ⟨_, hlen, hcell⟩ := World.cells?_some hcells
    rcases open_ints Try.underlying25 Try.underlying5 (by kernel_rfl) htr with ⟨rfl, _⟩ | ⟨x, l, c2, zs, rfl, _, hl2, hm2, hz, _, hc2, hw⟩
    · have h0 := hcell 0 (by omega)
      obtain ⟨b, off, spot⟩ := a
      have hspot' : spot = Option.none := hspot
      subst hspot'
      rw [Go.WideShapes.add_plain, Go.WideShapes.add_plain, Nat.add_zero] at h0
      exact ⟨b, off, none, 0, 0, [], rfl, h0, Rd.nil _ _ _ (by simp [maxLen])⟩
    · have h0 := hcell 0 (by omega)
      obtain ⟨b, off, spot⟩ := a
      have hspot' : spot = Option.none := hspot
      subst hspot'
      rw [Go.WideShapes.add_plain, Go.WideShapes.add_plain, Nat.add_zero] at h0
      simp only [if_true] at hz
      obtain ⟨q, hq⟩ := Rd.some hl2 hz hm2 hc2 hw
      exact ⟨b, off, some x, l, c2, q, rfl, h0, hq⟩
end Go.Proofs.Ytfihaonpifoekaa
