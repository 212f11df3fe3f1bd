/- A slice of slices of numbers of 64 bits that came in. Conditions: none beyond those typed. -/
import Derived.Test.YtcckfdhajbbieaaLift
import Derived.Test.YtcckfdhajbbieaaUlift
import Derived.Test.YtcckfdhajbbieaaCk
namespace Go.Proofs.Ytcckfdhajbbieaa
open Go.ChangeShapes Go.WideShapes Go.ChangeAt Go.RowKit
set_option linter.unusedVariables false
set_option linter.unusedSimpArgs false
set_option maxRecDepth 100000

/-- What a law is told of a slice of slices of numbers that came in. -/
def ArgRs (W : World) (A : Option Addr) (n c : Nat) : Prop :=
  n ≤ c ∧ c ≤ maxLen ∧ ∀ j, j < n → ∃ b o A' n' c' l, A = some ⟨b, o, none⟩ ∧ W.cell? ⟨b, o + j, none⟩ = some (.slice A' n' c') ∧ RdU W A' n' c' l
theorem ArgRs.none (W : World) : ArgRs W none 0 0 := ⟨Nat.le_refl _, by simp [maxLen], fun j hj => absurd hj (by omega)⟩
/-- The rows, one by one. -/
theorem ArgRs.upto {W : World} {A : Option Addr} {n c : Nat} (h : ArgRs W A n c) : ∀ k, k ≤ n → ∃ (sl : List Slv) (rows : List (List Int)), sl.length = k ∧ rows.length = k ∧
    (∀ j a, sl[j]? = some a → ∃ b o, A = some ⟨b, o, Option.none⟩ ∧ W.cell? ⟨b, o + j, Option.none⟩ = some (.slice a.1 a.2.1 a.2.2)) ∧ ∀ (j : Nat) (s : Slv) (r : List Int), sl[j]? = some s → rows[j]? = some r → RdU W s.1 s.2.1 s.2.2 r
  | 0, _ => ⟨[], [], rfl, rfl, fun j a h => by simp at h, fun j s r h => by simp at h⟩
  | k + 1, hk => by
    obtain ⟨sl, rows, h1, h2, h3, h4⟩ := ArgRs.upto h k (by omega)
    obtain ⟨b, o, A', n', c', l, hA, hc, hR⟩ := h.2.2 k (by omega)
    refine ⟨sl ++ [(A', n', c')], rows ++ [l], by simp [h1], by simp [h2], fun j a ha => ?_, fun j s r hs hr => ?_⟩
    · rcases Nat.lt_or_ge j k with hj | hj
      · rw [List.getElem?_append_left (by omega)] at ha
        exact h3 j a ha
      · have : j = k := by have := (List.getElem?_eq_some_iff.1 ha).1; simp at this; omega
        subst this
        rw [List.getElem?_append_right (by omega), h1, Nat.sub_self] at ha
        obtain rfl := Option.some.inj ha
        exact ⟨b, o, hA, hc⟩
    · rcases Nat.lt_or_ge j k with hj | hj
      · rw [List.getElem?_append_left (by omega)] at hs hr
        exact h4 j s r hs hr
      · have : j = k := by have := (List.getElem?_eq_some_iff.1 hs).1; simp at this; omega
        subst this
        rw [List.getElem?_append_right (by omega), h1, Nat.sub_self] at hs
        rw [List.getElem?_append_right (by omega), h2, Nat.sub_self] at hr
        obtain rfl := Option.some.inj hs
        obtain rfl := Option.some.inj hr
        exact hR
theorem ArgRs.rdR {W : World} {A : Option Addr} {n c : Nat} (h : ArgRs W A n c) : ∃ rows, RdR W A n c rows := by
  obtain ⟨sl, rows, h1, h2, h3, h4⟩ := h.upto n (Nat.le_refl _)
  refine ⟨rows, sl, ⟨h1, h.1, h.2.1, fun j a ha => ?_⟩, h2, h4⟩
  obtain ⟨b, o, hA, hc⟩ := h3 j a ha
  refine ⟨b, o, hA, fun i u hu => ?_⟩
  have hi : i < 1 := (List.getElem?_eq_some_iff.1 hu).1
  obtain rfl : i = 0 := by omega
  have hu' : Value.slice a.1 a.2.1 a.2.2 = u := by injection hu
  rw [show kSl.k = 1 from rfl, Nat.mul_one, Nat.add_zero, ← hu']
  exact hc
theorem open_u64ss {H : Type} {enc : TypeId × Value → H} {W : World} {A : Option Addr} {n c : Nat} {d : DataW H} {p : List MemPlace} (h : DataW.Trod enc Try.prog W 0 (fun _ => true) true 41 (.slice A n c) d p) : ArgRs W A n c := by
  obtain ⟨fuel, hf⟩ := h
  have e1 : Try.prog.cellsOf 22 = 1 := by kernel_rfl
  rcases DataW.trod_slice Try.underlying41 hf with ⟨hcs, _⟩ | ⟨a, len, cap, elems, rest, m, _, hcs, _, _, hl, hm, hel, hget, _, _⟩
  · simp [Value.cells] at hcs
    obtain ⟨rfl, rfl, rfl⟩ := hcs
    exact ArgRs.none W
  · simp [Value.cells] at hcs
    obtain ⟨rfl, rfl, rfl⟩ := hcs
    refine ⟨hl, hm, fun j hj => ?_⟩
    have hspot : a.spot = Option.none := by
      have hg := hget 0 (by omega)
      rw [e1, Nat.mul_one] at hg
      have hx : elems[0]? = some (elems[0]'(by omega)) := List.getElem?_eq_getElem (by omega)
      rw [hx] at hg
      obtain ⟨cs, hcells, htr⟩ := Option.bind_eq_some_iff.1 hg
      obtain ⟨_, hlen, hcell⟩ := World.cells?_some hcells
      have h0 := hcell 0 (by omega)
      have hcs : cs[0]? = some (cs[0]'(by omega)) := List.getElem?_eq_getElem (by omega)
      rw [hcs] at h0
      simpa [Addr.add] using World.cell?_spot h0
    have hg := hget j hj
    rw [e1, Nat.mul_one] at hg
    have hx : elems[j]? = some (elems[j]'(by omega)) := List.getElem?_eq_getElem (by omega)
    rw [hx] at hg
    obtain ⟨cs, hcells, htr⟩ := Option.bind_eq_some_iff.1 hg
    obtain ⟨_, hlen, hcell⟩ := World.cells?_some hcells
    rcases open_ints Try.underlying22 Try.underlying34 (by kernel_rfl) htr with ⟨rfl, _⟩ | ⟨x, l, c2, zs, rfl, _, hl2, hm2, hz, _, hc2, hw⟩
    · have h0 := hcell 0 (by omega)
      obtain ⟨b, off, spot⟩ := a
      have hspot' : spot = Option.none := hspot
      subst hspot'
      rw [Go.WideShapes.add_plain, Go.WideShapes.add_plain, Nat.add_zero] at h0
      exact ⟨b, off, none, 0, 0, [], rfl, h0, ⟨rfl, Nat.le_refl _, by simp [maxLen], fun z h => (by cases h), fun j z h => (by simp at h)⟩⟩
    · have h0 := hcell 0 (by omega)
      obtain ⟨b, off, spot⟩ := a
      have hspot' : spot = Option.none := hspot
      subst hspot'
      rw [Go.WideShapes.add_plain, Go.WideShapes.add_plain, Nat.add_zero] at h0
      simp only [if_true] at hz
      obtain ⟨q, hq⟩ := ArgU.some hl2 hm2 hz hc2 hw
      exact ⟨b, off, some x, l, c2, q, rfl, h0, hq⟩
end Go.Proofs.Ytcckfdhajbbieaa
