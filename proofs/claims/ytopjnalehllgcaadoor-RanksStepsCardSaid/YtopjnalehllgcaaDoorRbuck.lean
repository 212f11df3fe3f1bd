/- The plain mathematics of buckets: elements with a common count lie together, the counts of the buckets ascend. Conditions: none beyond those typed. -/
import Derived.Test.YtopjnalehllgcaaDoorRmath
namespace Go.Proofs.YtopjnalehllgcaaDoor
set_option linter.unusedVariables false
set_option linter.unusedSimpArgs false

/-- All elements, bucket after bucket. -/
def flatB (B : List (Int × List Nat)) : List (Nat × Int) := B.flatMap fun b => b.2.map fun k => (k, b.1)
structure GoodB (B : List (Int × List Nat)) : Prop where
  asc : B.Pairwise fun a b => a.1 < b.1
  full : ∀ b ∈ B, b.2 ≠ []
section
variable {B B1 B2 : List (Int × List Nat)} {c : Int} {ids K1 K2 : List Nat} {id : Nat} {m : CSt Int} {L1 L2 : List (Nat × Int)}
theorem flat_app : flatB (B1 ++ B2) = flatB B1 ++ flatB B2 := List.flatMap_append ..
theorem flat_cons {b : Int × List Nat} : flatB (b :: B) = (b.2.map fun k => (k, b.1)) ++ flatB B := rfl
theorem flat_mem {p : Nat × Int} (h : p ∈ flatB B) : ∃ b ∈ B, p.2 = b.1 ∧ p.1 ∈ b.2 := by
  obtain ⟨b, hb, h⟩ := List.mem_flatMap.1 h
  obtain ⟨k, hk, e⟩ := List.mem_map.1 h
  subst e
  exact ⟨b, hb, rfl, hk⟩
theorem flat_in {b : Int × List Nat} {k : Nat} (hb : b ∈ B) (hk : k ∈ b.2) : (k, b.1) ∈ flatB B := List.mem_flatMap.2 ⟨b, hb, List.mem_map.2 ⟨k, hk, rfl⟩⟩
/-- Where a new element goes. -/
theorem put_split (h1 : ∀ b ∈ B1, b.1 ≤ c) (h2 : ∀ b ∈ B2, c < b.1) (id : Nat) : putR (flatB (B1 ++ B2)) id c = flatB B1 ++ (id, c) :: flatB B2 := by
  have hp : posR (flatB (B1 ++ B2)) c = (flatB B1).length := by
    rw [flat_app]
    refine pos_is (fun i p hi hp => ?_) (fun p hp => ?_) (by rw [List.length_append]; omega)
    · rw [List.getElem?_append_left hi] at hp
      obtain ⟨b, hb, e, _⟩ := flat_mem (List.mem_of_getElem? hp)
      rw [e]; exact h1 b hb
    · rw [List.getElem?_append_right (Nat.le_refl _), Nat.sub_self] at hp
      obtain ⟨b, hb, e, _⟩ := flat_mem (List.mem_of_getElem? hp)
      rw [e]; exact h2 b hb
  unfold putR
  rw [hp, flat_app, List.take_left, List.drop_left]
/-- Into a bucket that is there. -/
theorem put_in (h1 : ∀ b ∈ B1, b.1 < c) (h2 : ∀ b ∈ B2, c < b.1) (id : Nat) : putR (flatB (B1 ++ (c, ids) :: B2)) id c = flatB (B1 ++ (c, ids ++ [id]) :: B2) := by
  have e : B1 ++ (c, ids) :: B2 = (B1 ++ [(c, ids)]) ++ B2 := by simp
  rw [e, put_split (fun b hb => by
    rcases List.mem_append.1 hb with h | h
    · exact Int.le_of_lt (h1 b h)
    · rw [List.mem_singleton.1 h]; exact Int.le_refl _) h2]
  simp [flat_app, flat_cons, flatB]
/-- Into a new one. -/
theorem put_new (h1 : ∀ b ∈ B1, b.1 < c) (h2 : ∀ b ∈ B2, c < b.1) (id : Nat) : putR (flatB (B1 ++ B2)) id c = flatB (B1 ++ (c, [id]) :: B2) := by
  rw [put_split (fun b hb => Int.le_of_lt (h1 b hb)) h2, flat_app, flat_cons]
  rfl
theorem rem_split (G : GoodC m) (hl : m.l = L1 ++ (id, c) :: L2) : placeC m.l (id : Int) = some L1.length ∧ m.rem (id : Int) = { m with l := L1 ++ L2 } ∧ m.value 0 (id : Int) = (c, 0) := by
  have hat : m.l[L1.length]? = some (id, c) := by rw [hl, List.getElem?_append_right (Nat.le_refl _), Nat.sub_self]; rfl
  have hp := place_is G hat
  refine ⟨hp, ?_, ?_⟩
  · unfold CSt.rem
    rw [hp]
    show { m with l := remC m.l L1.length } = _
    have : remC m.l L1.length = L1 ++ L2 := by
      unfold remC
      rw [hl, List.take_left]
      congr 1
      rw [show L1 ++ (id, c) :: L2 = (L1 ++ [(id, c)]) ++ L2 by simp, List.drop_left' (by simp)]
    rw [this]
  · unfold CSt.value
    rw [hp]
    show (((m.l[L1.length]?).map Prod.snd).getD 0, (0 : Int)) = _
    rw [hat]; rfl
/-- An element goes out of its bucket. -/
theorem rem_in (G : GoodC m) (hl : m.l = flatB (B1 ++ (c, K1 ++ id :: K2) :: B2)) : m.rem (id : Int) = { m with l := flatB (B1 ++ (c, K1 ++ K2) :: B2) } ∧ m.value 0 (id : Int) = (c, 0) ∧ (placeC m.l (id : Int)).isSome = true := by
  have e : m.l = (flatB B1 ++ K1.map fun k => (k, c)) ++ (id, c) :: ((K2.map fun k => (k, c)) ++ flatB B2) := by rw [hl]; simp [flat_app, flat_cons]
  obtain ⟨h1, h2, h3⟩ := rem_split G e
  refine ⟨?_, h3, by rw [h1]; rfl⟩
  rw [h2]
  congr 1
  simp [flat_app, flat_cons]
theorem flat_gone : flatB (B1 ++ (c, []) :: B2) = flatB (B1 ++ B2) := by simp [flat_app, flat_cons]
/-- Raising is taking out and putting in. -/
theorem raise_split {b : Int} (G : GoodC m) (hl : m.l = flatB (B1 ++ (c, K1 ++ id :: K2) :: B2)) (hf : fitsB c b = true) (hb : 0 < b) : m.raiseR (id : Int) b = (0, { m with l := putR (flatB (B1 ++ (c, K1 ++ K2) :: B2)) id (c + b) }) := by
  have e : m.l = (flatB B1 ++ K1.map fun k => (k, c)) ++ (id, c) :: ((K2.map fun k => (k, c)) ++ flatB B2) := by rw [hl]; simp [flat_app, flat_cons]
  obtain ⟨h1, h2, h3⟩ := rem_split G e
  obtain ⟨h4, _, _⟩ := rem_in G hl
  have hat : m.l[(flatB B1 ++ K1.map fun k => (k, c)).length]? = some (id, c) := by rw [e, List.getElem?_append_right (Nat.le_refl _), Nat.sub_self]; rfl
  have hr : remC m.l (flatB B1 ++ K1.map fun k => (k, c)).length = flatB (B1 ++ (c, K1 ++ K2) :: B2) := by
    unfold CSt.rem at h4
    rw [h1] at h4
    exact congrArg CSt.l h4
  unfold CSt.raiseR
  rw [h1]
  show (match m.l[(flatB B1 ++ K1.map fun k => (k, c)).length]? with | none => _ | some p => _) = _
  rw [hat]
  show (if fitsB c b = true then _ else _) = _
  rw [if_pos hf, if_pos hb]
  show ((0 : Int), { m with l := putR (remC m.l _) id (c + b) }) = _
  rw [hr]
theorem least_flat {b : Int × List Nat} {k : Nat} {K : List Nat} (hl : m.l = flatB (b :: B)) (hb : b.2 = k :: K) : m.leastR = (((k : Int), b.1), true) := by
  unfold CSt.leastR
  rw [hl, flat_cons, hb]; rfl
end
end Go.Proofs.YtopjnalehllgcaaDoor
