/- Swapping places of a list: what the steps of a stable sort do. Conditions: none beyond those typed. -/
import Derived.Test.YtbdafhephmoedaaLnmath
namespace Go.Proofs.Ytbdafhephmoedaa
set_option linter.unusedVariables false
set_option linter.unusedSimpArgs false

section
variable {α : Type} {L L' : List α} {a b i n : Nat} {x y : α}
/-- Two ranges of a list, of which the first i places have changed. -/
structure SwR (L : List α) (a b i : Nat) (L' : List α) : Prop where
  len : L'.length = L.length
  get : ∀ p, L'[p]? = if a ≤ p ∧ p < a + i then L[p + (b - a)]? else if b ≤ p ∧ p < b + i then L[p - (b - a)]? else L[p]?
theorem SwR.start : SwR L a b 0 L := ⟨rfl, fun p => by rw [if_neg (by omega), if_neg (by omega)]⟩
theorem SwR.step (h : SwR L a b i L') (hab : a + i < b) (hx : L'[a + i]? = some x) (hy : L'[b + i]? = some y) : SwR L a b (i + 1) ((L'.set (a + i) y).set (b + i) x) := by
  have hxl := (List.getElem?_eq_some_iff.1 hx).1
  have hyl := (List.getElem?_eq_some_iff.1 hy).1
  have hx' := h.get (a + i)
  rw [if_neg (by omega), if_neg (by omega), hx] at hx'
  have hy' := h.get (b + i)
  rw [if_neg (by omega), if_neg (by omega), hy] at hy'
  refine ⟨by rw [List.length_set, List.length_set, h.len], fun p => ?_⟩
  rw [List.getElem?_set, List.getElem?_set, List.length_set]
  by_cases h1 : b + i = p
  · subst h1
    rw [if_pos rfl, if_pos hyl, if_neg (by omega), if_pos (by omega), hx', show b + i - (b - a) = a + i by omega]
  · rw [if_neg h1]
    by_cases h2 : a + i = p
    · subst h2
      rw [if_pos rfl, if_pos hxl, if_pos (by omega), hy', show a + i + (b - a) = b + i by omega]
    · rw [if_neg h2, h.get p]
      by_cases h3 : a ≤ p ∧ p < a + i
      · rw [if_pos h3, if_pos (by omega)]
      · rw [if_neg h3, if_neg (show ¬ (a ≤ p ∧ p < a + (i + 1)) by omega)]
        by_cases h4 : b ≤ p ∧ p < b + i
        · rw [if_pos h4, if_pos (by omega)]
        · rw [if_neg h4, if_neg (by omega)]
/-- Two ranges of the same length have changed places. -/
theorem SwR.done {P X M Y Q : List α} (h : SwR (P ++ X ++ M ++ Y ++ Q) P.length (P.length + X.length + M.length) X.length L') (hl : Y.length = X.length) : L' = P ++ Y ++ M ++ X ++ Q := by
  refine List.ext_getElem? fun p => ?_
  rw [h.get p]
  simp only [List.append_assoc, List.getElem?_append]
  by_cases h1 : p < P.length
  · rw [if_neg (by omega), if_neg (by omega), if_pos h1, if_pos h1]
  · rw [if_neg (c := p < P.length) h1, if_neg (c := p < P.length) h1]
    by_cases h2 : p < P.length + X.length
    · rw [if_pos (by omega), if_neg (by omega), if_neg (by omega), if_neg (by omega), if_pos (by omega), if_pos (by omega)]
      congr 1; omega
    · rw [if_neg (by omega)]
      by_cases h3 : p < P.length + X.length + M.length
      · rw [if_neg (by omega), if_neg (by omega), if_pos (by omega), if_neg (by omega), if_pos (by omega)]
        congr 1; omega
      · by_cases h4 : p < P.length + X.length + M.length + X.length
        · rw [if_pos (by omega), if_neg (by omega), if_pos (by omega), if_neg (by omega), if_neg (by omega), if_pos (by omega)]
          congr 1; omega
        · rw [if_neg (by omega), if_neg (by omega), if_neg (by omega), if_neg (by omega), if_neg (by omega), if_neg (by omega), if_neg (by omega)]
          congr 1; omega
/-- A line moves to the right, step by step. -/
def midR (V : List α) (u : α) (j : Nat) : List α := V.take j ++ u :: V.drop j
theorem midR_len {V : List α} {u : α} {j : Nat} : (midR V u j).length = V.length + 1 := by unfold midR; rw [List.length_append, List.length_cons, List.length_take, List.length_drop]; omega
theorem midR_zero {V : List α} {u : α} : midR V u 0 = u :: V := rfl
theorem midR_end {V : List α} {u : α} : midR V u V.length = V ++ [u] := by unfold midR; rw [List.take_length, List.drop_length]
theorem midR_at {V : List α} {u : α} {j : Nat} (hj : j ≤ V.length) : (midR V u j)[j]? = some u := by
  unfold midR
  rw [List.getElem?_append_right (by rw [List.length_take]; omega), List.length_take, show j - min j V.length = 0 by omega]; rfl
theorem midR_low {V : List α} {u : α} {j p : Nat} (hp : p < j) (hj : j ≤ V.length) : (midR V u j)[p]? = V[p]? := by
  unfold midR
  rw [List.getElem?_append_left (by rw [List.length_take]; omega), List.getElem?_take, if_pos hp]
theorem midR_high {V : List α} {u : α} {j p : Nat} (hp : j ≤ p) (hj : j ≤ V.length) : (midR V u j)[p + 1]? = V[p]? := by
  unfold midR
  rw [List.getElem?_append_right (by rw [List.length_take]; omega), List.length_take, show p + 1 - min j V.length = (p - j) + 1 by omega, List.getElem?_cons_succ, List.getElem?_drop, show j + (p - j) = p by omega]
/-- A step to the right, or to the left. -/
theorem midR_step {V : List α} {u v : α} {j : Nat} (hv : V[j]? = some v) : ((midR V u j).set j v).set (j + 1) u = midR V u (j + 1) := by
  obtain ⟨hj, he⟩ := List.getElem?_eq_some_iff.1 hv
  unfold midR
  rw [List.drop_eq_getElem_cons hj, he, List.set_append_right _ _ (by rw [List.length_take]; omega), List.length_take, show j - min j V.length = 0 by omega, List.set_cons_zero, List.set_append_right _ _ (by rw [List.length_take]; omega), List.length_take, show j + 1 - min j V.length = 1 by omega, List.set_cons_succ, List.set_cons_zero, List.take_add_one, hv]
  simp
theorem midR_back {V : List α} {u v : α} {j : Nat} (hv : V[j]? = some v) : ((midR V u (j + 1)).set (j + 1) v).set j u = midR V u j := by
  obtain ⟨hj, he⟩ := List.getElem?_eq_some_iff.1 hv
  have e1 : midR V u (j + 1) = V.take j ++ v :: u :: V.drop (j + 1) := by
    unfold midR; rw [List.take_add_one, hv]; simp
  have e2 : midR V u j = V.take j ++ u :: v :: V.drop (j + 1) := by
    unfold midR; rw [List.drop_eq_getElem_cons hj, he]
  rw [e1, e2, List.set_append_right _ _ (by rw [List.length_take]; omega), List.length_take, show j + 1 - min j V.length = 1 by omega, List.set_cons_succ, List.set_cons_zero, List.set_append_right _ _ (by rw [List.length_take]; omega), List.length_take, show j - min j V.length = 0 by omega, List.set_cons_zero]
/-- In the middle of a longer list. -/
theorem in_mid {A V B : List α} {p : Nat} (hp : p < V.length) : (A ++ V ++ B)[A.length + p]? = V[p]? := by
  rw [List.getElem?_append_left (by rw [List.length_append]; omega), List.getElem?_append_right (by omega), show A.length + p - A.length = p by omega]
theorem set_mid {A V B : List α} {p : Nat} {v : α} (hp : p < V.length) : (A ++ V ++ B).set (A.length + p) v = A ++ V.set p v ++ B := by
  rw [List.set_append_left _ _ (by rw [List.length_append]; omega), List.set_append_right _ _ (by omega), show A.length + p - A.length = p by omega]
end
end Go.Proofs.Ytbdafhephmoedaa
