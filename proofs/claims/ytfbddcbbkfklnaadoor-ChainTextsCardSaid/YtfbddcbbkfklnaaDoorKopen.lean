/- A []string as a statement's argument: it reads as a row of texts, and no text is longer than memory reaches. Conditions: none beyond those typed. -/
import Derived.Test.YtfbddcbbkfklnaaDoorKargs
import Derived.SliceStrings
import Derived.SizedLaws
namespace Go.Proofs.YtfbddcbbkfklnaaDoor
open Go.ChangeShapes Go.WideShapes Go.ChangeAt Go.RowKit
set_option linter.unusedVariables false
set_option linter.unusedSimpArgs false
theorem open_texts {H : Type} {enc : TypeId × Value → H} {W : World} {A : Option Addr} {n c : Nat} {d : DataW H} {p : List MemPlace} (h : DataW.Trod enc Tryd.prog W 0 (fun _ => true) true 38 (.slice A n c) d p) :
    ∃ K : List ByteArray, RdG kT W A n c K ∧ (K = [] ∨ ∃ rest, d = .slice (ChangeShapes.strs K) rest) := by
  obtain ⟨fuel, hf⟩ := h
  rcases open_strings Tryd.underlying38 Tryd.underlying9 (by kernel_rfl) hf with ⟨hcs, _⟩ | ⟨a, len, cap, ss, hcs, _, hl, hm, hz, hx, hcell, hsz⟩
  · simp [Value.cells] at hcs
    obtain ⟨rfl, rfl, rfl⟩ := hcs
    exact ⟨[], RdG.nil W Option.none 0 (Nat.zero_le _), .inl rfl⟩
  · simp [Value.cells] at hcs
    obtain ⟨rfl, rfl, rfl⟩ := hcs
    simp only [if_true] at hz
    refine ⟨ss.take n, ⟨by rw [List.length_take]; omega, hl, hm, fun j s hs => ?_⟩, .inr ⟨_, (congrArg Prod.fst hx)⟩⟩
    have hj : j < n := by have := (List.getElem?_eq_some_iff.1 hs).1; simp at this; omega
    rw [List.getElem?_take_of_lt hj] at hs
    have hc := hcell j (by omega)
    obtain ⟨b, o, sp⟩ := a
    have hsp : sp = Option.none := by
      have h0 := World.cell?_spot (hcell 0 (by omega))
      simpa [Addr.add] using h0
    subst hsp
    rw [Go.WideShapes.add_plain] at hc
    refine ⟨b, o, rfl, fun i u hu => ?_⟩
    have hi : i < 1 := (List.getElem?_eq_some_iff.1 hu).1
    obtain rfl : i = 0 := by omega
    have hu' : Value.string s = u := by injection hu
    rw [show kT.k = 1 from rfl, Nat.mul_one, Nat.add_zero, hc, ← hu']
    simp [List.getD, hs]
theorem weightsAll_at {H : Type} {P : Program} {t : TypeId} {d : DataW H} : ∀ {l : List (DataW H)}, d ∈ l → ∀ n ∈ d.weights P t, n ∈ DataW.weightsAll P t l
  | x :: l, h, n, hn => by
    simp only [DataW.weightsAll, List.mem_append]
    rcases List.mem_cons.1 h with rfl | h
    · exact Or.inl hn
    · exact Or.inr (weightsAll_at h n hn)
theorem sized_texts {H : Type} {P : Program} {ts : List TypeId} {ds : List (DataW H)} (h : (DataW.weightsEach P ts ds).all (· ≤ reachBytes) = true) {j : Nat} {t e : TypeId} {K : List ByteArray} {rest : List (DataW H)} (ht : ts[j]? = some t) (hd : ds[j]? = some (.slice (ChangeShapes.strs K) rest)) (hu : P.underlying t = some (.slice e)) :
    ∀ s ∈ K, s.size ≤ 140737488351232 := fun s hs => by
  have h1 : s.size ≤ reachBytes := by
    refine of_decide_eq_true (List.all_eq_true.1 h _ (DataW.weights_mem_each ht hd _ ?_))
    simp only [DataW.weights, hu, List.mem_cons, List.mem_append]
    refine Or.inr (Or.inl (weightsAll_at (List.mem_map.2 ⟨s, hs, rfl⟩) _ ?_))
    simp [DataW.weights]
  exact h1
theorem sized_str {H : Type} {P : Program} {ts : List TypeId} {ds : List (DataW H)} (h : (DataW.weightsEach P ts ds).all (· ≤ reachBytes) = true) {j : Nat} {t : TypeId} {l : List UInt8} (ht : ts[j]? = some t) (hd : ds[j]? = some (.lit (.string l))) : l.length ≤ 140737488351232 :=
  of_decide_eq_true (List.all_eq_true.1 h _ (DataW.weights_mem_each ht hd _ (by simp [DataW.weights])))
end Go.Proofs.YtfbddcbbkfklnaaDoor
