/- The plain mathematics of orders: elements with their counts, ascending; an element comes behind all others with its count. Conditions: none beyond those typed. -/
import Derived.Test.YtopjnalehllgcaaDoorDmath
import Derived.Test.YtopjnalehllgcaaDoorSat
namespace Go.Proofs.YtopjnalehllgcaaDoor
set_option linter.unusedVariables false
set_option linter.unusedSimpArgs false

/-- The place behind all elements whose counts are at most c. -/
def posR (l : List (Nat × Int)) (c : Int) : Nat := l.findIdx fun p => decide (c < p.2)
def putR (l : List (Nat × Int)) (id : Nat) (c : Int) : List (Nat × Int) := l.take (posR l c) ++ (id, c) :: l.drop (posR l c)
def CSt.insR (m : CSt Int) (z c : Int) : Int × CSt Int :=
  if z < 0 ∨ (m.n : Int) ≤ z then (1, m) else if (placeC m.l z).isSome = true then (10, m) else if 9223372036854775808 < c then (12, m) else (0, { m with l := putR m.l z.toNat c })
def CSt.raiseR (m : CSt Int) (z by_ : Int) : Int × CSt Int := match placeC m.l z with
  | none => (8, m)
  | some i => match m.l[i]? with
    | none => (8, m)
    | some p => if fitsB p.2 by_ = true then (0, if 0 < by_ then { m with l := putR (remC m.l i) p.1 (p.2 + by_) } else m) else (12, m)
def CSt.countR (m : CSt Int) (z : Int) : Int × Bool := ((m.value 0 z).1, (placeC m.l z).isSome)
def CSt.leastR (m : CSt Int) : (Int × Int) × Bool := match m.l with | [] => ((0, 0), false) | p :: _ => (((p.1 : Int), p.2), true)
structure GoodR (m : CSt Int) : Prop where
  c : GoodC m
  srt : m.l.Pairwise fun p q => p.2 ≤ q.2
  bd : ∀ p ∈ m.l, 0 ≤ p.2 ∧ p.2 ≤ 9223372036854775808
section
variable {l : List (Nat × Int)} {m : CSt Int} {i j id : Nat} {z c : Int} {p : Nat × Int}
theorem pos_le (l : List (Nat × Int)) (c : Int) : posR l c ≤ l.length := List.findIdx_le_length
theorem pos_before (h : i < posR l c) (hp : l[i]? = some p) : p.2 ≤ c := by
  obtain ⟨hl, rfl⟩ := List.getElem?_eq_some_iff.1 hp
  have := List.not_of_lt_findIdx h
  simpa using this
theorem pos_at (hp : l[posR l c]? = some p) : c < p.2 := by
  obtain ⟨hl, rfl⟩ := List.getElem?_eq_some_iff.1 hp
  have h1 := List.findIdx_getElem (p := fun p : Nat × Int => decide (c < p.2)) (w := hl)
  have h2 : decide (c < (l[posR l c]'hl).2) = true := h1
  simpa using h2
theorem pos_is (hb : ∀ i p, i < j → l[i]? = some p → p.2 ≤ c) (h : ∀ p, l[j]? = some p → c < p.2) (hj : j ≤ l.length) : posR l c = j := by
  rcases Nat.lt_trichotomy (posR l c) j with h1 | h1 | h1
  · obtain ⟨p, hp⟩ : ∃ p, l[posR l c]? = some p := ⟨_, List.getElem?_eq_getElem (by omega)⟩
    have := hb _ p h1 hp
    have := pos_at hp
    omega
  · exact h1
  · have hle := pos_le l c
    obtain ⟨p, hp⟩ : ∃ p, l[j]? = some p := ⟨_, List.getElem?_eq_getElem (by omega)⟩
    have := h p hp
    have := pos_before h1 hp
    omega
theorem put_perm (l : List (Nat × Int)) (id : Nat) (c : Int) : (putR l id c).Perm ((id, c) :: l) := by
  unfold putR
  have := List.perm_middle (a := (id, c)) (l₁ := l.take (posR l c)) (l₂ := l.drop (posR l c))
  rwa [List.take_append_drop] at this
theorem put_len (l : List (Nat × Int)) (id : Nat) (c : Int) : (putR l id c).length = l.length + 1 := (put_perm l id c).length_eq
theorem put_srt (h : l.Pairwise fun p q => p.2 ≤ q.2) (id : Nat) (c : Int) : (putR l id c).Pairwise fun p q => p.2 ≤ q.2 := by
  unfold putR
  have h1 : ∀ p ∈ l.take (posR l c), p.2 ≤ c := fun p hp => by
    obtain ⟨i, hi⟩ := List.mem_iff_getElem?.1 hp
    have hlt : i < posR l c := by
      have := (List.getElem?_eq_some_iff.1 hi).1
      rw [List.length_take] at this; omega
    rw [List.getElem?_take_of_lt hlt] at hi
    exact pos_before hlt hi
  have h2 : ∀ p ∈ l.drop (posR l c), c ≤ p.2 := fun p hp => by
    obtain ⟨i, hi⟩ := List.mem_iff_getElem?.1 hp
    rw [List.getElem?_drop] at hi
    obtain ⟨q, hq⟩ : ∃ q, l[posR l c]? = some q := ⟨_, List.getElem?_eq_getElem (by have := (List.getElem?_eq_some_iff.1 hi).1; omega)⟩
    have h3 := pos_at hq
    cases i with
    | zero => rw [Nat.add_zero, hq] at hi; injection hi with hi; subst hi; omega
    | succ k =>
      obtain ⟨a, ha⟩ := List.getElem?_eq_some_iff.1 hq
      obtain ⟨b, hb⟩ := List.getElem?_eq_some_iff.1 hi
      have := List.pairwise_iff_getElem.1 h _ _ a b (by omega)
      rw [ha, hb] at this
      omega
  rw [List.pairwise_append]
  refine ⟨h.sublist (List.take_sublist _ _), List.pairwise_cons.2 ⟨h2, h.sublist (List.drop_sublist _ _)⟩, fun a ha b hb => ?_⟩
  rcases List.mem_cons.1 hb with rfl | hb
  · exact h1 a ha
  · exact Int.le_trans (h1 a ha) (h2 b hb)
theorem rem_sub (l : List (Nat × Int)) (i : Nat) : (remC l i).Sublist l := by
  unfold remC
  have h1 : (l.drop (i + 1)).Sublist (l.drop i) := by
    rw [show l.drop (i + 1) = (l.drop i).drop 1 by rw [List.drop_drop]]
    exact List.drop_sublist _ _
  have := List.Sublist.append (List.Sublist.refl (l.take i)) h1
  rwa [List.take_append_drop] at this
theorem rem_len (hi : i < l.length) : (remC l i).length + 1 = l.length := by unfold remC; rw [List.length_append, List.length_take, List.length_drop]; omega
theorem GoodR.put (G : GoodR m) (hid : id < m.n) (hno : placeC m.l (id : Int) = none) (hc : 0 ≤ c ∧ c ≤ 9223372036854775808) : GoodR { m with l := putR m.l id c } := by
  have hp := put_perm m.l id c
  have hnot : id ∉ m.nodes := fun hm => by
    have := place_node (m := m) id
    rw [hno, decide_eq_true hm] at this; cases this
  have hnd : (id :: m.nodes).Nodup := List.nodup_cons.2 ⟨hnot, G.c.nd⟩
  have hlt : ∀ x ∈ id :: m.nodes, x < m.n := fun x hx => by
    rcases List.mem_cons.1 hx with rfl | h
    · exact hid
    · exact G.c.lt x h
  have hlen := nodup_into hnd (l' := List.range m.n) fun x hx => List.mem_range.2 (hlt x hx)
  rw [List.length_range, List.length_cons, nodes_len] at hlen
  have hmap : ((putR m.l id c).map Prod.fst).Perm (id :: m.nodes) := hp.map Prod.fst
  exact ⟨⟨G.c.n1, G.c.n8, by simp only [put_len]; omega, hmap.nodup_iff.2 hnd, fun x hx => hlt x (hmap.mem_iff.1 hx)⟩, put_srt G.srt id c, fun p hp' => by
    rcases List.mem_cons.1 (hp.mem_iff.1 hp') with rfl | h
    · exact hc
    · exact G.bd p h⟩
theorem GoodR.rem (G : GoodR m) (z : Int) : GoodR (m.rem z) := by
  refine ⟨G.c.rem z, ?_, ?_⟩
  · unfold CSt.rem
    cases placeC m.l z with
    | none => exact G.srt
    | some i => exact G.srt.sublist (rem_sub m.l i)
  · unfold CSt.rem
    cases placeC m.l z with
    | none => exact G.bd
    | some i => exact fun p hp => G.bd p ((rem_sub m.l i).subset hp)
/-- A removed element is nowhere. -/
theorem rem_gone (G : GoodC m) (hp : placeC m.l z = some i) : placeC (remC m.l i) z = none := by
  obtain ⟨q, hq, hq1, hi⟩ := place_some hp
  cases h : placeC (remC m.l i) z with
  | none => rfl
  | some j =>
    exfalso
    have h' : placeC ({ m with l := remC m.l i } : CSt Int).l z = some j := h
    obtain ⟨r, hr, hr1, _⟩ := place_some h'
    have hr' : (remC m.l i)[j]? = some r := hr
    have hid : r.1 = q.1 := by omega
    have e1 : m.nodes[i]? = some q.1 := by simp [CSt.nodes, hq]
    have hnd := G.nd
    unfold remC at hr'
    have hne : ∀ (x : Nat), x ≠ i → m.l[x]? = some r → False := fun x hx hxr => by
      have e2 : m.nodes[x]? = some q.1 := by simp [CSt.nodes, hxr, hid]
      obtain ⟨a, ea⟩ := List.getElem?_eq_some_iff.1 e1
      obtain ⟨b, eb⟩ := List.getElem?_eq_some_iff.1 e2
      rcases Nat.lt_or_ge i x with h2 | h2
      · exact List.pairwise_iff_getElem.1 hnd i x a b h2 (ea.trans eb.symm)
      · exact List.pairwise_iff_getElem.1 hnd x i b a (by omega) (eb.trans ea.symm)
    rcases Nat.lt_or_ge j i with h2 | h2
    · rw [List.getElem?_append_left (by rw [List.length_take]; omega), List.getElem?_take_of_lt h2] at hr'
      exact hne j (by omega) hr'
    · rw [List.getElem?_append_right (by rw [List.length_take]; omega), List.getElem?_drop] at hr'
      exact hne _ (by rw [List.length_take]; omega) hr'
theorem GoodR.insR (G : GoodR m) (z c : Int) (hc : 0 ≤ c) : GoodR (m.insR z c).2 := by
  unfold CSt.insR
  split
  · exact G
  · split
    · exact G
    · split
      · exact G
      · rename_i h1 h2 h3
        have hz : (z.toNat : Int) = z := by omega
        refine G.put (by omega) ?_ ⟨hc, by omega⟩
        rw [hz]
        exact Option.not_isSome_iff_eq_none.1 h2
theorem GoodR.raiseR (G : GoodR m) (z b : Int) (hb : 0 ≤ b) : GoodR (m.raiseR z b).2 := by
  unfold CSt.raiseR
  cases hp : placeC m.l z with
  | none => exact G
  | some i =>
    obtain ⟨q, hq, hq1, hi⟩ := place_some hp
    simp only [hq]
    have hqb := G.bd q (List.mem_of_getElem? hq)
    by_cases hf : fitsB q.2 b = true
    · rw [if_pos hf]
      have hf' : q.2 + b ≤ 9223372036854775808 := by unfold fitsB at hf; simpa using hf
      by_cases h0 : 0 < b
      · rw [if_pos h0]
        have GR := G.rem z
        have er : m.rem z = { m with l := remC m.l i } := by unfold CSt.rem; rw [hp]
        rw [er] at GR
        have hlt := G.c.lt q.1 (List.mem_map.2 ⟨q, List.mem_of_getElem? hq, rfl⟩)
        exact GR.put (m := { m with l := remC m.l i }) hlt (by rw [hq1]; exact rem_gone G.c hp) ⟨by omega, hf'⟩
      · rw [if_neg h0]; exact G
    · rw [if_neg hf]; exact G
end
end Go.Proofs.YtopjnalehllgcaaDoor
