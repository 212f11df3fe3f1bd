/- Lines in plain words: their order, stable sorting, and what a merge by rotations does. Conditions: none beyond those typed. -/
import Derived.Test.YtbdafhephmoedaaMmath
import Derived.Test.YtbdafhephmoedaaSvmath
namespace Go.Proofs.Ytbdafhephmoedaa
set_option linter.unusedVariables false
set_option linter.unusedSimpArgs false

/-- Line p comes before line q: (key, Lo, Hi). -/
def lnB (p q : En) : Bool := decide (q.2.2 < p.2.2) || (decide (p.2.2 = q.2.2) && sless p.1 q.1)
/-- Neither of two lines comes before the other. -/
def eqL (p q : En) : Bool := decide (p.2.2 = q.2.2) && decide (p.1 = q.1)
theorem lnB_iff {p q : En} : lnB p q = true ↔ q.2.2 < p.2.2 ∨ (p.2.2 = q.2.2 ∧ sless p.1 q.1 = true) := by simp [lnB]
theorem eqL_iff {p q : En} : eqL p q = true ↔ p.2.2 = q.2.2 ∧ p.1 = q.1 := by simp [eqL]
theorem eqL_refl (p : En) : eqL p p = true := eqL_iff.2 ⟨rfl, rfl⟩
theorem eqL_symm {p q : En} (h : eqL p q = true) : eqL q p = true := by obtain ⟨h1, h2⟩ := eqL_iff.1 h; exact eqL_iff.2 ⟨h1.symm, h2.symm⟩
theorem lnB_irrefl (p : En) : lnB p p = false := by
  cases h : lnB p p with
  | false => rfl
  | true =>
    rcases lnB_iff.1 h with h | ⟨_, h⟩
    · omega
    · rw [sless_irrefl] at h; cases h
theorem lnB_trans {p q r : En} (h1 : lnB p q = true) (h2 : lnB q r = true) : lnB p r = true := by
  rw [lnB_iff] at *
  rcases h1 with h1 | ⟨h1, s1⟩ <;> rcases h2 with h2 | ⟨h2, s2⟩
  · left; omega
  · left; omega
  · left; omega
  · exact .inr ⟨by omega, sless_trans s1 s2⟩
theorem lnB_asymm {p q : En} (h : lnB p q = true) : lnB q p = false := by
  cases h2 : lnB q p with
  | false => rfl
  | true => have := lnB_trans h h2; rw [lnB_irrefl] at this; cases this
theorem lnB_total (p q : En) : lnB p q = true ∨ lnB q p = true ∨ eqL p q = true := by
  rcases Int.lt_trichotomy p.2.2 q.2.2 with h | h | h
  · exact .inr (.inl (lnB_iff.2 (.inl h)))
  · rcases sless_total p.1 q.1 with s | s | s
    · exact .inr (.inr (eqL_iff.2 ⟨h, s⟩))
    · exact .inl (lnB_iff.2 (.inr ⟨h, s⟩))
    · exact .inr (.inl (lnB_iff.2 (.inr ⟨h.symm, s⟩)))
  · exact .inl (lnB_iff.2 (.inl h))
theorem lnB_eqL {p q : En} (h : eqL p q = true) : lnB p q = false ∧ lnB q p = false := by
  obtain ⟨h1, h2⟩ := eqL_iff.1 h
  constructor
  · cases hb : lnB p q with
    | false => rfl
    | true =>
      rcases lnB_iff.1 hb with h | ⟨_, h⟩
      · omega
      · rw [h2, sless_irrefl] at h; cases h
  · cases hb : lnB q p with
    | false => rfl
    | true =>
      rcases lnB_iff.1 hb with h | ⟨_, h⟩
      · omega
      · rw [h2, sless_irrefl] at h; cases h
/-- p < q ≤ r. -/
theorem lnB_lt_le {p q r : En} (h1 : lnB p q = true) (h2 : lnB r q = false) : lnB p r = true := by
  rcases lnB_total q r with h | h | h
  · exact lnB_trans h1 h
  · rw [h] at h2; cases h2
  · obtain ⟨e1, e2⟩ := eqL_iff.1 h
    rw [lnB_iff] at h1 ⊢
    rw [← e1, ← e2]; exact h1
/-- p ≤ q < r. -/
theorem lnB_le_lt {p q r : En} (h1 : lnB q p = false) (h2 : lnB q r = true) : lnB p r = true := by
  rcases lnB_total p q with h | h | h
  · exact lnB_trans h h2
  · rw [h] at h1; cases h1
  · obtain ⟨e1, e2⟩ := eqL_iff.1 h
    rw [lnB_iff] at h2 ⊢
    rw [e1, e2]; exact h2
/-- p ≤ q ≤ r. -/
theorem lnB_le_le {p q r : En} (h1 : lnB q p = false) (h2 : lnB r q = false) : lnB r p = false := by
  cases h : lnB r p with
  | false => rfl
  | true => have := lnB_lt_le h h1; rw [h2] at this; cases this
/-- In the order of lines. -/
def SrtL (l : List En) : Prop := l.Pairwise fun x y => lnB y x = false
/-- The same lines, and those with the same Hi and Key in the same order. -/
structure SmL (S S' : List En) : Prop where
  len : S'.length = S.length
  flt : ∀ z, S'.filter (eqL z) = S.filter (eqL z)
section
variable {S S' S'' X X' Y Y' : List En}
theorem SmL.refl (S : List En) : SmL S S := ⟨rfl, fun _ => rfl⟩
theorem SmL.symm (h : SmL S S') : SmL S' S := ⟨h.len.symm, fun z => (h.flt z).symm⟩
theorem SmL.trans (h : SmL S S') (h' : SmL S' S'') : SmL S S'' := ⟨h'.len.trans h.len, fun z => (h'.flt z).trans (h.flt z)⟩
theorem SmL.app (h : SmL X X') (h' : SmL Y Y') : SmL (X ++ Y) (X' ++ Y') := ⟨by rw [List.length_append, List.length_append, h.len, h'.len], fun z => by rw [List.filter_append, List.filter_append, h.flt, h'.flt]⟩
theorem SmL.mem (h : SmL S S') {x : En} : x ∈ S' ↔ x ∈ S := by
  constructor
  · intro hx
    have : x ∈ S'.filter (eqL x) := List.mem_filter.2 ⟨hx, eqL_refl x⟩
    rw [h.flt] at this
    exact (List.mem_filter.1 this).1
  · intro hx
    have : x ∈ S.filter (eqL x) := List.mem_filter.2 ⟨hx, eqL_refl x⟩
    rw [← h.flt] at this
    exact (List.mem_filter.1 this).1
theorem flt_none {z : En} (h : ∀ x ∈ S, eqL z x = false) : S.filter (eqL z) = [] := List.filter_eq_nil_iff.2 fun x hx => by rw [h x hx]; simp
/-- Two runs change places, of which all lines of the second come before all of the first. -/
theorem SmL.swap (h : ∀ x ∈ X, ∀ y ∈ Y, lnB y x = true) : SmL (X ++ Y) (Y ++ X) := by
  refine ⟨by simp [Nat.add_comm], fun z => ?_⟩
  rw [List.filter_append, List.filter_append]
  rcases Classical.em (∃ x ∈ X, eqL z x = true) with ⟨x, hx, hz⟩ | hn
  · have : Y.filter (eqL z) = [] := flt_none fun y hy => by
      cases hzy : eqL z y with
      | false => rfl
      | true =>
        have h1 := h x hx y hy
        obtain ⟨a1, a2⟩ := eqL_iff.1 hz
        obtain ⟨b1, b2⟩ := eqL_iff.1 hzy
        have : eqL y x = true := eqL_iff.2 ⟨by omega, b2.symm.trans a2⟩
        rw [(lnB_eqL this).1] at h1; cases h1
    rw [this]; simp
  · have : X.filter (eqL z) = [] := flt_none fun x hx => by
      cases hzx : eqL z x with
      | false => rfl
      | true => exact absurd ⟨x, hx, hzx⟩ hn
    rw [this]; simp
/-- Lines have one stable order. -/
theorem srtL_one : ∀ {l l' : List En}, SrtL l → SrtL l' → SmL l l' → l = l'
  | [], l', _, _, h => (List.eq_nil_of_length_eq_zero h.len).symm
  | x :: r, [], _, _, h => by have := h.len; simp at this
  | x :: r, y :: r', h1, h2, h => by
    have hx : x ∈ y :: r' := h.mem.2 (by simp)
    have hy : y ∈ x :: r := h.mem.1 (by simp)
    have a1 : lnB x y = false := by
      rcases List.mem_cons.1 hx with e | hx
      · rw [e]; exact lnB_irrefl y
      · exact (List.pairwise_cons.1 h2).1 x hx
    have a2 : lnB y x = false := by
      rcases List.mem_cons.1 hy with e | hy
      · rw [e]; exact lnB_irrefl x
      · exact (List.pairwise_cons.1 h1).1 y hy
    have e : eqL x y = true := by
      rcases lnB_total x y with h | h | h
      · rw [h] at a1; cases a1
      · rw [h] at a2; cases a2
      · exact h
    have hf := h.flt x
    rw [List.filter_cons_of_pos (p := eqL x) e, List.filter_cons_of_pos (p := eqL x) (eqL_refl x)] at hf
    injection hf with hxy _
    subst hxy
    have ht : SmL r r' := by
      refine ⟨by have := h.len; simpa using this, fun z => ?_⟩
      have := h.flt z
      rw [List.filter_cons, List.filter_cons] at this
      split at this
      · injection this
      · exact this
    rw [srtL_one (List.pairwise_cons.1 h1).2 (List.pairwise_cons.1 h2).2 ht]
/-- How often a line stands in a list. -/
def cntL (x : En) (l : List En) : Nat := (l.filter fun y => decide (y = x)).length
theorem SmL.cnt (h : SmL S S') (x : En) : cntL x S' = cntL x S := by
  have e : ∀ l : List En, l.filter (fun y => decide (y = x)) = (l.filter (eqL x)).filter fun y => decide (y = x) := fun l => by
    rw [List.filter_filter]
    refine List.filter_congr fun y _ => ?_
    by_cases hy : y = x
    · subst hy; simp [eqL_refl]
    · simp [hy]
  unfold cntL
  rw [e S', h.flt, ← e S]
theorem srtL_app (h1 : SrtL X) (h2 : SrtL Y) (h : ∀ x ∈ X, ∀ y ∈ Y, lnB y x = false) : SrtL (X ++ Y) := List.pairwise_append.2 ⟨h1, h2, h⟩
theorem SrtL.left (h : SrtL (X ++ Y)) : SrtL X := (List.pairwise_append.1 h).1
theorem SrtL.right (h : SrtL (X ++ Y)) : SrtL Y := (List.pairwise_append.1 h).2.1
theorem SrtL.at_ (h : SrtL S) {i j : Nat} {x y : En} (hi : S[i]? = some x) (hj : S[j]? = some y) (hij : i ≤ j) : lnB y x = false := by
  rcases Nat.eq_or_lt_of_le hij with e | hlt
  · subst e
    rw [hi] at hj; injection hj with hj; subst hj; exact lnB_irrefl x
  · obtain ⟨hil, hie⟩ := List.getElem?_eq_some_iff.1 hi
    obtain ⟨hjl, hje⟩ := List.getElem?_eq_some_iff.1 hj
    have := List.pairwise_iff_getElem.1 h i j hil hjl hlt
    rwa [hie, hje] at this
/-- A line in its place in a run: behind all that do not come after it. -/
theorem srtL_mid {s1 s2 : List En} {x : En} (h : SrtL (s1 ++ s2)) (h1 : ∀ y ∈ s1, lnB x y = false) (h2 : ∀ y ∈ s2, lnB x y = true) : SrtL (s1 ++ x :: s2) := by
  obtain ⟨a, b, c⟩ := List.pairwise_append.1 h
  refine List.pairwise_append.2 ⟨a, List.pairwise_cons.2 ⟨fun y hy => lnB_asymm (h2 y hy), b⟩, fun y hy z hz => ?_⟩
  rcases List.mem_cons.1 hz with e | hz
  · rw [e]; exact h1 y hy
  · exact c y hy z hz
end
end Go.Proofs.Ytbdafhephmoedaa
