/- The plain mathematics of lists of numbered nodes: numbers with their values, in order; a new node has the least number that none has. Conditions: none beyond those typed. -/
import Derived.Test.YtopjnalehllgcaaDoorMprobe
namespace Go.Proofs.YtopjnalehllgcaaDoor
set_option linter.unusedVariables false
set_option linter.unusedSimpArgs false

/-- The least number that is not in a list. -/
def freeN (ns : List Nat) : Nat := ((List.range (ns.length + 1)).find? fun k => !ns.contains k).getD 0
theorem freeN_spec (ns : List Nat) : freeN ns ∉ ns ∧ (∀ j, j < freeN ns → j ∈ ns) ∧ freeN ns ≤ ns.length := by
  unfold freeN
  cases hf : (List.range (ns.length + 1)).find? fun k => !ns.contains k with
  | none =>
    have h1 : ∀ x ∈ List.range (ns.length + 1), x ∈ ns := fun x hx => by
      have := List.find?_eq_none.1 hf x hx
      simpa using this
    have := nodup_into List.nodup_range h1
    simp at this
    omega
  | some k =>
    obtain ⟨h1, h2, h3⟩ := List.find?_range_eq_some.1 hf
    simp at h1 h2
    refine ⟨h1, fun j hj => ?_, by simp only [Option.getD_some]; omega⟩
    have := h3 j hj
    simpa using this
theorem freeN_is {ns : List Nat} {k : Nat} (h1 : k ∉ ns) (h2 : ∀ j, j < k → j ∈ ns) : freeN ns = k := by
  obtain ⟨a, b, _⟩ := freeN_spec ns
  rcases Nat.lt_trichotomy (freeN ns) k with h | h | h
  · exact absurd (h2 _ h) a
  · exact h
  · exact absurd (b _ h) h1
/-- A list: room for n nodes. -/
structure CSt (α : Type) where
  n : Nat
  l : List (Nat × α)
section
variable {α : Type}
def placeC (l : List (Nat × α)) (z : Int) : Option Nat := l.findIdx? fun p => decide ((p.1 : Int) = z)
def CSt.nodes (m : CSt α) : List Nat := m.l.map Prod.fst
def CSt.vals (m : CSt α) : List α := m.l.map Prod.snd
def insC (l : List (Nat × α)) (i : Nat) (v : α) : List (Nat × α) := l.take i ++ (freeN (l.map Prod.fst), v) :: l.drop i
def remC (l : List (Nat × α)) (i : Nat) : List (Nat × α) := l.take i ++ l.drop (i + 1)
def CSt.ins (m : CSt α) (i : Nat) (v : α) : (Int × Int) × CSt α := if m.l.length = m.n then ((0, 7), m) else (((freeN m.nodes : Nat), 0), { m with l := insC m.l i v })
def CSt.pushB (m : CSt α) (v : α) : (Int × Int) × CSt α := m.ins m.l.length v
def CSt.pushF (m : CSt α) (v : α) : (Int × Int) × CSt α := m.ins 0 v
def CSt.insA (m : CSt α) (z : Int) (v : α) : (Int × Int) × CSt α := match placeC m.l z with | none => ((0, 8), m) | some i => m.ins (i + 1) v
/-- z0: the zero value. -/
def CSt.value (z0 : α) (m : CSt α) (z : Int) : α × Int := match placeC m.l z with | none => (z0, 8) | some i => ((m.l[i]?.map Prod.snd).getD z0, 0)
def CSt.rem (m : CSt α) (z : Int) : CSt α := match placeC m.l z with | none => m | some i => { m with l := remC m.l i }
def CSt.by_ (m : CSt α) (z d : Int) : Int := match placeC m.l z with | none => -1 | some i => if (i : Int) + d < 0 ∨ (m.l.length : Int) ≤ i + d then -1 else ((m.nodes.getD ((i : Int) + d).toNat 0 : Nat) : Int)
def CSt.first (m : CSt α) : Int := match m.nodes.head? with | none => -1 | some k => (k : Int)
def CSt.last (m : CSt α) : Int := match m.nodes.getLast? with | none => -1 | some k => (k : Int)
structure GoodC (m : CSt α) : Prop where
  n1 : 1 ≤ m.n
  n8 : m.n ≤ 8192
  len : m.l.length ≤ m.n
  nd : m.nodes.Nodup
  lt : ∀ k ∈ m.nodes, k < m.n
def newC (α : Type) (n : Nat) : CSt α := ⟨n, []⟩
theorem newC_good {n : Nat} (h1 : 1 ≤ n) (h8 : n ≤ 8192) : GoodC (newC α n) := ⟨h1, h8, Nat.zero_le _, List.nodup_nil, fun k h => by simp [CSt.nodes, newC] at h⟩
variable {m : CSt α} {i j k : Nat} {z : Int} {v z0 : α} {p : Nat × α}
theorem nodes_len (m : CSt α) : m.nodes.length = m.l.length := by simp [CSt.nodes]
theorem place_some (h : placeC m.l z = some i) : ∃ p, m.l[i]? = some p ∧ (p.1 : Int) = z ∧ i < m.l.length := by
  unfold placeC at h
  obtain ⟨hi, h1, _⟩ := List.findIdx?_eq_some_iff_getElem.1 h
  exact ⟨_, List.getElem?_eq_getElem hi, by simpa using h1, hi⟩
theorem place_none (h : placeC m.l z = none) : ∀ p ∈ m.l, (p.1 : Int) ≠ z := fun p hp => by
  unfold placeC at h
  have := List.findIdx?_eq_none_iff.1 h p hp
  simpa using this
theorem place_node (k : Nat) : (placeC m.l (k : Int)).isSome = decide (k ∈ m.nodes) := by
  cases h : placeC m.l (k : Int) with
  | some i =>
    obtain ⟨p, hp, h1, _⟩ := place_some h
    have : k ∈ m.nodes := List.mem_map.2 ⟨p, List.mem_of_getElem? hp, by omega⟩
    simp [this]
  | none =>
    have : k ∉ m.nodes := fun hm => by
      obtain ⟨p, hp, h1⟩ := List.mem_map.1 hm
      exact place_none h p hp (by omega)
    simp [this]
theorem place_is (G : GoodC m) (hp : m.l[i]? = some p) : placeC m.l (p.1 : Int) = some i := by
  cases h : placeC m.l (p.1 : Int) with
  | none => exact absurd rfl (place_none h p (List.mem_of_getElem? hp))
  | some j =>
    obtain ⟨q, hq, h1, _⟩ := place_some h
    have e1 : m.nodes[i]? = some p.1 := by simp [CSt.nodes, hp]
    have e2 : m.nodes[j]? = some p.1 := by simp [CSt.nodes, hq]; omega
    obtain ⟨hi, e1⟩ := List.getElem?_eq_some_iff.1 e1
    obtain ⟨hj, e2⟩ := List.getElem?_eq_some_iff.1 e2
    rcases Nat.lt_trichotomy i j with h2 | h2 | h2
    · exact absurd (e1.trans e2.symm) (List.pairwise_iff_getElem.1 G.nd i j hi hj h2)
    · rw [h2]
    · exact absurd (e2.trans e1.symm) (List.pairwise_iff_getElem.1 G.nd j i hj hi h2)
theorem ins_nodes (l : List (Nat × α)) (i : Nat) (v : α) : (insC l i v).map Prod.fst = (l.map Prod.fst).take i ++ freeN (l.map Prod.fst) :: (l.map Prod.fst).drop i := by simp [insC, List.map_take, List.map_drop]
theorem ins_len (l : List (Nat × α)) (i : Nat) (v : α) : (insC l i v).length = l.length + 1 := by
  unfold insC; simp; omega
theorem GoodC.ins (G : GoodC m) (i : Nat) (v : α) : GoodC (m.ins i v).2 := by
  unfold CSt.ins
  by_cases hn : m.l.length = m.n
  · rw [if_pos hn]; exact G
  · rw [if_neg hn]
    obtain ⟨f1, _, f3⟩ := freeN_spec m.nodes
    have hlen := G.len
    have hl := nodes_len m
    have hp : ((insC m.l i v).map Prod.fst).Perm (freeN m.nodes :: m.nodes) := by
      rw [ins_nodes]
      have := List.perm_middle (a := freeN m.nodes) (l₁ := m.nodes.take i) (l₂ := m.nodes.drop i)
      rw [List.take_append_drop] at this
      exact this
    refine ⟨G.n1, G.n8, by simp only [ins_len]; omega, (hp.nodup_iff).2 (List.nodup_cons.2 ⟨f1, G.nd⟩), fun k hk => ?_⟩
    rcases List.mem_cons.1 ((hp.mem_iff).1 hk) with rfl | h
    · show freeN m.nodes < m.n; omega
    · exact G.lt k h
theorem GoodC.rem (G : GoodC m) (z : Int) : GoodC (m.rem z) := by
  unfold CSt.rem
  cases hp : placeC m.l z with
  | none => exact G
  | some i =>
    have hsub : ((remC m.l i).map Prod.fst).Sublist m.nodes := by
      unfold remC CSt.nodes
      refine List.Sublist.map _ ?_
      have h1 : (m.l.drop (i + 1)).Sublist (m.l.drop i) := by
        rw [show m.l.drop (i + 1) = (m.l.drop i).drop 1 by rw [List.drop_drop]]
        exact List.drop_sublist _ _
      have := List.Sublist.append (List.Sublist.refl (m.l.take i)) h1
      rwa [List.take_append_drop] at this
    refine ⟨G.n1, G.n8, ?_, G.nd.sublist hsub, fun k hk => G.lt k (hsub.subset hk)⟩
    have := hsub.length_le
    rw [List.length_map, nodes_len] at this
    exact Nat.le_trans this G.len
theorem GoodC.insA (G : GoodC m) (z : Int) (v : α) : GoodC (m.insA z v).2 := by
  unfold CSt.insA
  split
  · exact G
  · exact G.ins _ v
end
end Go.Proofs.YtopjnalehllgcaaDoor
