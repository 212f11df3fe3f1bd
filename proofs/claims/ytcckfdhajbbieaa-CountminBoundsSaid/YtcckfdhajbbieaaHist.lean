/- Keys and weights that were added, one by one. Conditions: none beyond those typed. -/
import Derived.Test.YtcckfdhajbbieaaSvgood
namespace Go.Proofs.Ytcckfdhajbbieaa
set_option linter.unusedVariables false
set_option linter.unusedSimpArgs false

theorem freq_app (k : ByteArray) : ∀ l l' : List (ByteArray × Int), freqE (l ++ l') k = freqE l k + freqE l' k
  | [], l' => by show freqE l' k = 0 + freqE l' k; omega
  | a :: l, l' => by
    show freqE (l ++ l') k + _ = (freqE l k + _) + freqE l' k
    rw [freq_app k l l']; omega
theorem freq_next {l : List (ByteArray × Int)} {j : Nat} {a : ByteArray × Int} (h : l[j]? = some a) (k : ByteArray) : freqE (l.take (j + 1)) k = freqE (l.take j) k + if a.1 = k then a.2 else 0 := by
  rw [List.take_add_one, h, freq_app]
  show _ + (0 + _) = _
  omega
theorem freq_most (k : ByteArray) : ∀ {l : List (ByteArray × Int)}, (∀ a ∈ l, 0 ≤ a.2 ∧ a.2 ≤ 65536) → 0 ≤ freqE l k ∧ freqE l k ≤ 65536 * l.length
  | [], _ => by simp [freqE]
  | a :: l, h => by
    obtain ⟨h1, h2⟩ := h a (by simp)
    obtain ⟨h3, h4⟩ := freq_most k (l := l) fun b hb => h b (by simp [hb])
    have e : 65536 * ((a :: l).length : Int) = 65536 * l.length + 65536 := by simp [Int.mul_add]
    rw [freq_cons, e]
    split <;> omega
/-- Keys and weights that were added; L: what the weights came from. -/
structure HistB (ps : List (ByteArray × Int)) (L : List Int) : Prop where
  of : ∀ (j : Nat) (a : ByteArray × Int), ps[j]? = some a → ∃ z, L[j]? = some z ∧ a.2 = 1 + z ∧ 0 ≤ z ∧ z ≤ 65535
  key : ∀ a ∈ ps, 2 ≤ a.1.size ∧ a.1.size ≤ 3
section
variable {ps : List (ByteArray × Int)} {L : List Int} {s : ByteArray} {z : Int}
theorem HistB.nil : HistB [] L := ⟨fun j a h => by simp at h, fun a h => by cases h⟩
theorem HistB.snoc (H : HistB ps L) (hz : L[ps.length]? = some z) (h0 : 0 ≤ z ∧ z ≤ 65535) (hs : 2 ≤ s.size ∧ s.size ≤ 3) : HistB (ps ++ [(s, 1 + z)]) L := by
  refine ⟨fun j a h => ?_, fun a h => ?_⟩
  · rcases Nat.lt_trichotomy j ps.length with h1 | h1 | h1
    · rw [List.getElem?_append_left h1] at h
      exact H.of j a h
    · subst h1
      rw [List.getElem?_append_right (Nat.le_refl _), Nat.sub_self] at h
      injection h with h; subst h
      exact ⟨z, hz, rfl, h0.1, h0.2⟩
    · rw [List.getElem?_eq_none (by simp; omega)] at h; cases h
  · rcases List.mem_append.1 h with h | h
    · exact H.key a h
    · rw [List.mem_singleton.1 h]; exact hs
theorem HistB.bd (H : HistB ps L) : ∀ a ∈ ps, 0 ≤ a.2 ∧ a.2 ≤ 65536 := fun a ha => by
  obtain ⟨j, hj⟩ := List.mem_iff_getElem?.1 ha
  obtain ⟨z, _, h1, h2, h3⟩ := H.of j a hj
  omega
end
end Go.Proofs.Ytcckfdhajbbieaa
