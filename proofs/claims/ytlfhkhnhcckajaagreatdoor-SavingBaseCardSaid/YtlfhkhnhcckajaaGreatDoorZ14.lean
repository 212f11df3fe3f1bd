/- Words laid together in one text. Conditions: none beyond those typed. -/
import Derived.Test.YtlfhkhnhcckajaaGreatDoorZ11
import Derived.Test.YtlfhkhnhcckajaaGreatDoorZ02
import Derived.Test.YtlfhkhnhcckajaaGreatDoorLr
import Derived.Test.YtlfhkhnhcckajaaGreatDoorLq
import Derived.Test.YtlfhkhnhcckajaaGreatDoorZ13
import Derived.Test.YtlfhkhnhcckajaaGreatDoorZ03
import Derived.BigQuiet
import Derived.Deep.RegionHeld3
import Derived.Deep.CutRange
import Derived.Test.YtlfhkhnhcckajaaGreatDoorZ05
import Derived.Test.YtlfhkhnhcckajaaGreatDoorZ09
/- The plain mathematics of buckets: elements with a common count lie together, the counts of the buckets ascend. Conditions: none beyond those typed. -/
namespace Go.Proofs.YtlfhkhnhcckajaaGreatDoor
set_option linter.unusedVariables false
set_option linter.unusedSimpArgs false

/-- All elements, bucket after bucket. -/
def flatB (B : List (Int × List Nat)) : List (Nat × Int) := B.flatMap fun b => b.2.map fun k => (k, b.1)
structure GoodB (B : List (Int × List Nat)) : Prop where
  asc : B.Pairwise fun a b => a.1 < b.1
  full : ∀ b ∈ B, b.2 ≠ []
section
variable {B B1 B2 : List (Int × List Nat)} {c : Int} {ids K1 K2 : List Nat} {id : Nat} {m : CSt Int} {L1 L2 : List (Nat × Int)}
theorem flat_app : flatB (B1 ++ B2) = flatB B1 ++ flatB B2 := List.flatMap_append ..
theorem flat_cons {b : Int × List Nat} : flatB (b :: B) = (b.2.map fun k => (k, b.1)) ++ flatB B := rfl
theorem flat_mem {p : Nat × Int} (h : p ∈ flatB B) : ∃ b ∈ B, p.2 = b.1 ∧ p.1 ∈ b.2 := by
  obtain ⟨b, hb, h⟩ := List.mem_flatMap.1 h
  obtain ⟨k, hk, e⟩ := List.mem_map.1 h
  subst e
  exact ⟨b, hb, rfl, hk⟩
theorem flat_in {b : Int × List Nat} {k : Nat} (hb : b ∈ B) (hk : k ∈ b.2) : (k, b.1) ∈ flatB B := List.mem_flatMap.2 ⟨b, hb, List.mem_map.2 ⟨k, hk, rfl⟩⟩
/-- Where a new element goes. -/
theorem put_split (h1 : ∀ b ∈ B1, b.1 ≤ c) (h2 : ∀ b ∈ B2, c < b.1) (id : Nat) : putR (flatB (B1 ++ B2)) id c = flatB B1 ++ (id, c) :: flatB B2 := by
  have hp : posR (flatB (B1 ++ B2)) c = (flatB B1).length := by
    rw [flat_app]
    refine pos_is (fun i p hi hp => ?_) (fun p hp => ?_) (by rw [List.length_append]; omega)
    · rw [List.getElem?_append_left hi] at hp
      obtain ⟨b, hb, e, _⟩ := flat_mem (List.mem_of_getElem? hp)
      rw [e]; exact h1 b hb
    · rw [List.getElem?_append_right (Nat.le_refl _), Nat.sub_self] at hp
      obtain ⟨b, hb, e, _⟩ := flat_mem (List.mem_of_getElem? hp)
      rw [e]; exact h2 b hb
  unfold putR
  rw [hp, flat_app, List.take_left, List.drop_left]
/-- Into a bucket that is there. -/
theorem put_in (h1 : ∀ b ∈ B1, b.1 < c) (h2 : ∀ b ∈ B2, c < b.1) (id : Nat) : putR (flatB (B1 ++ (c, ids) :: B2)) id c = flatB (B1 ++ (c, ids ++ [id]) :: B2) := by
  have e : B1 ++ (c, ids) :: B2 = (B1 ++ [(c, ids)]) ++ B2 := by simp
  rw [e, put_split (fun b hb => by
    rcases List.mem_append.1 hb with h | h
    · exact Int.le_of_lt (h1 b h)
    · rw [List.mem_singleton.1 h]; exact Int.le_refl _) h2]
  simp [flat_app, flat_cons, flatB]
/-- Into a new one. -/
theorem put_new (h1 : ∀ b ∈ B1, b.1 < c) (h2 : ∀ b ∈ B2, c < b.1) (id : Nat) : putR (flatB (B1 ++ B2)) id c = flatB (B1 ++ (c, [id]) :: B2) := by
  rw [put_split (fun b hb => Int.le_of_lt (h1 b hb)) h2, flat_app, flat_cons]
  rfl
theorem rem_split (G : GoodC m) (hl : m.l = L1 ++ (id, c) :: L2) : placeC m.l (id : Int) = some L1.length ∧ m.rem (id : Int) = { m with l := L1 ++ L2 } ∧ m.value 0 (id : Int) = (c, 0) := by
  have hat : m.l[L1.length]? = some (id, c) := by rw [hl, List.getElem?_append_right (Nat.le_refl _), Nat.sub_self]; rfl
  have hp := place_is G hat
  refine ⟨hp, ?_, ?_⟩
  · unfold CSt.rem
    rw [hp]
    show { m with l := remC m.l L1.length } = _
    have : remC m.l L1.length = L1 ++ L2 := by
      unfold remC
      rw [hl, List.take_left]
      congr 1
      rw [show L1 ++ (id, c) :: L2 = (L1 ++ [(id, c)]) ++ L2 by simp, List.drop_left' (by simp)]
    rw [this]
  · unfold CSt.value
    rw [hp]
    show (((m.l[L1.length]?).map Prod.snd).getD 0, (0 : Int)) = _
    rw [hat]; rfl
/-- An element goes out of its bucket. -/
theorem rem_in (G : GoodC m) (hl : m.l = flatB (B1 ++ (c, K1 ++ id :: K2) :: B2)) : m.rem (id : Int) = { m with l := flatB (B1 ++ (c, K1 ++ K2) :: B2) } ∧ m.value 0 (id : Int) = (c, 0) ∧ (placeC m.l (id : Int)).isSome = true := by
  have e : m.l = (flatB B1 ++ K1.map fun k => (k, c)) ++ (id, c) :: ((K2.map fun k => (k, c)) ++ flatB B2) := by rw [hl]; simp [flat_app, flat_cons]
  obtain ⟨h1, h2, h3⟩ := rem_split G e
  refine ⟨?_, h3, by rw [h1]; rfl⟩
  rw [h2]
  congr 1
  simp [flat_app, flat_cons]
theorem flat_gone : flatB (B1 ++ (c, []) :: B2) = flatB (B1 ++ B2) := by simp [flat_app, flat_cons]
/-- Raising is taking out and putting in. -/
theorem raise_split {b : Int} (G : GoodC m) (hl : m.l = flatB (B1 ++ (c, K1 ++ id :: K2) :: B2)) (hf : fitsB c b = true) (hb : 0 < b) : m.raiseR (id : Int) b = (0, { m with l := putR (flatB (B1 ++ (c, K1 ++ K2) :: B2)) id (c + b) }) := by
  have e : m.l = (flatB B1 ++ K1.map fun k => (k, c)) ++ (id, c) :: ((K2.map fun k => (k, c)) ++ flatB B2) := by rw [hl]; simp [flat_app, flat_cons]
  obtain ⟨h1, h2, h3⟩ := rem_split G e
  obtain ⟨h4, _, _⟩ := rem_in G hl
  have hat : m.l[(flatB B1 ++ K1.map fun k => (k, c)).length]? = some (id, c) := by rw [e, List.getElem?_append_right (Nat.le_refl _), Nat.sub_self]; rfl
  have hr : remC m.l (flatB B1 ++ K1.map fun k => (k, c)).length = flatB (B1 ++ (c, K1 ++ K2) :: B2) := by
    unfold CSt.rem at h4
    rw [h1] at h4
    exact congrArg CSt.l h4
  unfold CSt.raiseR
  rw [h1]
  show (match m.l[(flatB B1 ++ K1.map fun k => (k, c)).length]? with | none => _ | some p => _) = _
  rw [hat]
  show (if fitsB c b = true then _ else _) = _
  rw [if_pos hf, if_pos hb]
  show ((0 : Int), { m with l := putR (remC m.l _) id (c + b) }) = _
  rw [hr]
theorem least_flat {b : Int × List Nat} {k : Nat} {K : List Nat} (hl : m.l = flatB (b :: B)) (hb : b.2 = k :: K) : m.leastR = (((k : Int), b.1), true) := by
  unfold CSt.leastR
  rw [hl, flat_cons, hb]; rfl
end
end Go.Proofs.YtlfhkhnhcckajaaGreatDoor

/- Finer colours: an object whose blocks have the colours k .. k+15 holds objects of its own, each with colours of its own in a second colouring. Conditions: none beyond those typed. -/
namespace Go.Proofs.YtlfhkhnhcckajaaGreatDoor
open Go.ChangeShapes Go.WideShapes Go.ChangeAt Go.RowKit
set_option linter.unusedVariables false
set_option linter.unusedSimpArgs false

/-- c2 parts the blocks that have the colours of k in col; what lies outside has colour 1, what nobody writes colour 0. -/
def Fine (k : Nat) (col c2 : Col) : Prop := ∀ b, (col b = 0 → c2 b = 0) ∧ (Rng k (col b) → c2 b ≠ 0) ∧ (col b ≠ 0 → ¬ Rng k (col b) → c2 b = 1)
instance (k c : Nat) : Decidable (Rng k c) := inferInstanceAs (Decidable (_ ∧ _))
/-- Colours for blocks that are not parted yet. -/
def fineOf (k : Nat) (col : Col) : Col := fun b => if col b = 0 then 0 else if Rng k (col b) then 2 else 1
section
variable {P P2 : Nat → Prop} {col col' c2 c2' : Col} {w w' : World} {k : Nat}
theorem fineOf_fine (hk : 1 ≤ k) (col : Col) : Fine k col (fineOf k col) := fun b => by
  unfold fineOf
  refine ⟨fun h => if_pos h, fun h => ?_, fun h h' => ?_⟩
  · rw [if_neg (fun e => by rw [e] at h; exact rng0 hk h), if_pos h]; decide
  · rw [if_neg h, if_neg h']
theorem fineOf_tidy (ht : Tidy col w) : Tidy (fineOf k col) w := fun b hb => by unfold fineOf; rw [if_pos (ht b hb)]
/-- A step of what lies within is a step of the whole. -/
theorem Fine.out (F : Fine k col c2) (hk : 1 ≤ k) (ht : Tidy col w) (hs : StepC P2 c2 w c2' w') (hP : ∀ c, P2 c → 2 ≤ c) : ∃ col', Fine k col' c2' ∧ StepC (Rng k) col w col' w' := by
  refine ⟨fun b => if b < w.heap.size then col b else if c2' b = 0 then 0 else k, fun b => ?_, ⟨hs.os, hs.tape, hs.output, hs.size, fun b hb => if_pos hb, fun b hb => ?_, fun b hb hp => ?_⟩⟩
  · by_cases hb : b < w.heap.size
    · simp only [if_pos hb]
      rw [hs.kept b hb]
      exact F b
    · simp only [if_neg hb]
      by_cases h0 : c2' b = 0
      · simp only [if_pos h0]
        exact ⟨fun _ => h0, fun h => absurd h (rng0 hk), fun h => absurd rfl h⟩
      · simp only [if_neg h0]
        exact ⟨fun h => by omega, fun _ => h0, fun _ h => absurd (show Rng k k from ⟨Nat.le_refl _, by omega⟩) h⟩
  · have h1 := hs.size
    show (if b < w.heap.size then col b else if c2' b = 0 then 0 else k) = 0
    rw [if_neg (by omega), if_pos (hs.tidy b hb)]
  · refine hs.block b hb fun h => ?_
    have h2 := hP _ h
    obtain ⟨f1, _, f3⟩ := F b
    by_cases h0 : col b = 0
    · rw [f1 h0] at h2; omega
    · rw [f3 h0 hp] at h2; omega
/-- A step elsewhere leaves what lies within. -/
theorem Fine.inn (F : Fine k col c2) (hk : 1 ≤ k) (ht2 : Tidy c2 w) (hs : StepC P col w col' w') (hP : ∀ c, Rng k c → ¬ P c) (h0 : ¬ P 0) : ∃ c2', Fine k col' c2' ∧ StepC (fun c => c = 1) c2 w c2' w' := by
  refine ⟨fun b => if b < w.heap.size then c2 b else fineOf k col' b, fun b => ?_, ⟨hs.os, hs.tape, hs.output, hs.size, fun b hb => if_pos hb, fun b hb => ?_, fun b hb hp => ?_⟩⟩
  · by_cases hb : b < w.heap.size
    · simp only [if_pos hb]
      rw [hs.kept b hb]
      exact F b
    · simp only [if_neg hb]
      exact fineOf_fine hk col' b
  · have h1 := hs.size
    show (if b < w.heap.size then c2 b else fineOf k col' b) = 0
    rw [if_neg (by omega)]
    exact fineOf_tidy hs.tidy b hb
  · refine hs.block b hb fun h => ?_
    obtain ⟨_, f2, f3⟩ := F b
    by_cases hr : Rng k (col b)
    · exact hP _ hr h
    · by_cases he : col b = 0
      · rw [he] at h; exact h0 h
      · exact hp (f3 he hr)
end
end Go.Proofs.YtlfhkhnhcckajaaGreatDoor

/- A list of buckets, each with a list of numbers of its own, in memory: every list has colours of its own. Conditions: none beyond those typed. -/
namespace Go.Proofs.YtlfhkhnhcckajaaGreatDoor
open Go.ChangeShapes Go.WideShapes Go.ChangeAt Go.RowKit
set_option linter.unusedVariables false
set_option linter.unusedSimpArgs false
set_option maxRecDepth 100000

/-- A bucket: its node, its count, the block of its list, the number of its colours, its list. -/
structure Bk where
  nd : Nat
  ct : Int
  blk : Nat
  cc : Nat
  q : CSt Int
def Bk.kk (e : Bk) : Nat := 48 + 16 * e.cc
def Bk.val (e : Bk) : Int × Option Addr := (e.ct, some ⟨e.blk, 0, none⟩)
def Bk.row (e : Bk) : Nat × Int × Option Addr := (e.nd, e.val)
def Bk.ids (e : Bk) : Int × List Nat := (e.ct, e.q.vals.map Int.toNat)
/-- The buckets L; f: colours that no list has yet. -/
structure Bks (c2 : Col) (w : World) (gB f : Nat) (M : CSt (Int × Option Addr)) (L : List Bk) : Prop where
  outer : PLb c2 32 w gB M
  rows : M.l = L.map Bk.row
  inner : ∀ e ∈ L, PLi c2 e.kk w e.blk e.q
  apart : (L.map Bk.cc).Nodup
  few : ∀ e ∈ L, e.cc < f
section
variable {P : Nat → Prop} {c2 c2' : Col} {w w' : World} {gB f f' : Nat} {M M' : CSt (Int × Option Addr)} {L L1 L2 L' : List Bk} {e : Bk} {q' : CSt Int} {i : Nat}
theorem kk_far {e e' : Bk} (h : e.cc ≠ e'.cc) : ∀ c, Rng e.kk c → ¬ Rng e'.kk c := rngs_no (by unfold Bk.kk; omega)
theorem kk_outer (e : Bk) : ∀ c, Rng e.kk c → ¬ Rng 32 c := rngs_no (by unfold Bk.kk; omega)
theorem outer_kk (e : Bk) : ∀ c, Rng 32 c → ¬ Rng e.kk c := rngs_no (by unfold Bk.kk; omega)
theorem kk_pos (e : Bk) : 1 ≤ e.kk := by unfold Bk.kk; omega
theorem Bks.keep (h : Bks c2 w gB f M L) (hs : StepC P c2 w c2' w') (hP : ∀ c, 32 ≤ c → ¬ P c) (h0 : ¬ P 0) : Bks c2' w' gB f M L :=
  ⟨h.outer.keep hs (fun c hc => hP c hc.1) h0, h.rows, fun e he => (h.inner e he).keep hs (fun c hc => hP c (by have := hc.1; unfold Bk.kk at this; omega)) h0, h.apart, h.few⟩
theorem Bks.below (h : Bks c2 w gB f M L) (ht : Tidy c2 w) (hb : Below w.heap.size w w') : Bks c2 w' gB f M L := h.keep (P := fun _ => False) (StepC.below ht hb) (fun _ _ h => h) (fun h => h)
/-- The list of one bucket changes. -/
theorem Bks.inn (h : Bks c2 w gB f M (L1 ++ e :: L2)) (h' : PLi c2' e.kk w' e.blk q') (hs : StepC (Rng e.kk) c2 w c2' w') : Bks c2' w' gB f M (L1 ++ { e with q := q' } :: L2) := by
  have ha := h.apart
  have hne : ∀ e' ∈ L1 ++ L2, e'.cc ≠ e.cc := fun e' he' hc => by
    rw [List.map_append, List.map_cons] at ha
    have h1 := (List.perm_middle (a := e.cc) (l₁ := L1.map Bk.cc) (l₂ := L2.map Bk.cc)).nodup_iff.1 ha
    refine (List.nodup_cons.1 h1).1 ?_
    rw [← hc, ← List.map_append]
    exact List.mem_map.2 ⟨e', he', rfl⟩
  refine ⟨h.outer.keep hs (outer_kk e) (rng0 (kk_pos e)), by rw [h.rows]; simp [Bk.row, Bk.val], fun e' he' => ?_, by simpa using ha, fun e' he' => ?_⟩
  · rcases List.mem_append.1 he' with h1 | h1
    · exact (h.inner e' (by simp [h1])).keep hs (kk_far (hne e' (by simp [h1]))) (rng0 (kk_pos e))
    · rcases List.mem_cons.1 h1 with h2 | h2
      · subst h2; exact h'
      · exact (h.inner e' (by simp [h2])).keep hs (kk_far (hne e' (by simp [h2]))) (rng0 (kk_pos e))
  · rcases List.mem_append.1 he' with h1 | h1
    · exact h.few e' (by simp [h1])
    · rcases List.mem_cons.1 h1 with h2 | h2
      · subst h2; exact h.few e (by simp)
      · exact h.few e' (by simp [h2])
/-- The list of buckets changes. -/
theorem Bks.out (h' : PLb c2' 32 w' gB M') (hs : StepC (Rng 32) c2 w c2' w') (hr : M'.l = L'.map Bk.row) (hi : ∀ e ∈ L', PLi c2 e.kk w e.blk e.q) (ha : (L'.map Bk.cc).Nodup) (hf : ∀ e ∈ L', e.cc < f') : Bks c2' w' gB f' M' L' :=
  ⟨h', hr, fun e he => (hi e he).keep hs (kk_outer e) (rng0 (by omega)), ha, hf⟩
/-- A list with colours that no list has had. -/
theorem Bks.fresh (h : Bks c2 w gB f M L) (hs : StepC (Rng (48 + 16 * f)) c2 w c2' w') : Bks c2' w' gB f M L :=
  ⟨h.outer.keep hs (rngs_no (by omega)) (rng0 (by omega)), h.rows, fun e he => (h.inner e he).keep hs (rngs_no (by have := h.few e he; unfold Bk.kk; omega)) (rng0 (by omega)), h.apart, h.few⟩
/-- The place of a bucket's node. -/
theorem Bks.place (h : Bks c2 w gB f M (L1 ++ e :: L2)) : placeC M.l (e.nd : Int) = some L1.length ∧ M.value ((0, none) : Int × Option Addr) (e.nd : Int) = (e.val, 0) := by
  obtain ⟨_, _, _, _, _, _, _, _, _, R⟩ := h.outer
  have hat : M.l[L1.length]? = some e.row := by rw [h.rows, List.map_append, List.map_cons, List.getElem?_append_right (by simp)]; simp
  have hp : placeC M.l (e.nd : Int) = some L1.length := place_is R.good hat
  refine ⟨hp, ?_⟩
  unfold CSt.value
  rw [hp]
  show (((M.l[L1.length]?).map Prod.snd).getD _, (0 : Int)) = _
  rw [hat]; rfl
/-- The node before, the node behind. -/
theorem Bks.by_ (h : Bks c2 w gB f M (L1 ++ e :: L2)) : M.by_ (e.nd : Int) 1 = (match L2 with | [] => -1 | e' :: _ => (e'.nd : Int)) ∧ M.by_ (e.nd : Int) (-1) = (match L1.getLast? with | none => -1 | some e' => (e'.nd : Int)) := by
  have hp := h.place.1
  have hn : M.nodes = (L1 ++ e :: L2).map Bk.nd := by unfold CSt.nodes; rw [h.rows, List.map_map]; rfl
  have hl : M.l.length = L1.length + 1 + L2.length := by rw [h.rows]; simp; omega
  unfold CSt.by_
  rw [hp]
  constructor
  · show (if _ then _ else _) = _
    cases L2 with
    | nil => rw [if_pos (by simp at hl; omega)]
    | cons e' L2 =>
      rw [if_neg (by simp at hl; omega), hn, show ((L1.length : Int) + 1).toNat = L1.length + 1 by omega, List.getD_eq_getElem?_getD, List.map_append, List.map_cons, List.map_cons, List.getElem?_append_right (by simp)]
      simp
  · show (if _ then _ else _) = _
    cases hL : L1.getLast? with
    | none =>
      have h1 : L1 = [] := List.getLast?_eq_none_iff.1 hL
      subst h1
      rw [if_pos (by simp)]
    | some e' =>
      obtain ⟨L0, h1⟩ := List.getLast?_eq_some_iff.1 hL
      subst h1
      rw [if_neg (by simp at hl ⊢; omega), hn, show (((L0 ++ [e']).length : Int) + -1).toNat = L0.length by simp; omega, List.getD_eq_getElem?_getD]
      simp
/-- The first node. -/
theorem Bks.first (h : Bks c2 w gB f M L) : M.first = (match L with | [] => -1 | e :: _ => (e.nd : Int)) := by
  have hn : M.nodes = L.map Bk.nd := by unfold CSt.nodes; rw [h.rows, List.map_map]; rfl
  unfold CSt.first
  rw [hn]
  cases L <;> rfl
end
end Go.Proofs.YtlfhkhnhcckajaaGreatDoor

/- The program's orders as plain data: buckets with lists of their own, and where each element lies. Conditions: none beyond those typed. -/
namespace Go.Proofs.YtlfhkhnhcckajaaGreatDoor
set_option linter.unusedVariables false
set_option linter.unusedSimpArgs false

/-- Where an element lies: the node of its bucket, its node there. -/
abbrev Loc := Nat → Option (Nat × Nat)
def locSet (loc : Loc) (id : Nat) (v : Option (Nat × Nat)) : Loc := fun i => if i = id then v else loc i
structure RkI (m : CSt Int) (L : List Bk) (loc : Loc) : Prop where
  good : GoodR m
  flat : m.l = flatB (L.map Bk.ids)
  asc : L.Pairwise fun a b => a.ct < b.ct
  full : ∀ e ∈ L, e.q.l ≠ []
  size : ∀ e ∈ L, e.q.n = m.n
  qs : ∀ e ∈ L, GoodC e.q
  vals : ∀ e ∈ L, ∀ p ∈ e.q.l, 0 ≤ p.2
  nds : (L.map Bk.nd).Nodup
  at_ : ∀ id b k, loc id = some (b, k) ↔ ∃ e ∈ L, e.nd = b ∧ (k, (id : Int)) ∈ e.q.l
section
variable {m : CSt Int} {L L1 L2 : List Bk} {e : Bk} {loc : Loc} {id b k : Nat} {c : Int} {K1 K2 : List (Nat × Int)}
theorem ids_mem (h : (k, (id : Int)) ∈ e.q.l) : id ∈ e.ids.2 := List.mem_map.2 ⟨(id : Int), List.mem_map.2 ⟨_, h, rfl⟩, by simp⟩
theorem RkI.of_ids (R : RkI m L loc) (he : e ∈ L) (h : id ∈ e.ids.2) : ∃ k, (k, (id : Int)) ∈ e.q.l := by
  obtain ⟨z, hz, rfl⟩ := List.mem_map.1 h
  obtain ⟨p, hp, rfl⟩ := List.mem_map.1 hz
  refine ⟨p.1, ?_⟩
  rw [Int.toNat_of_nonneg (R.vals e he p hp)]
  exact hp
/-- What is there. -/
theorem RkI.mem (R : RkI m L loc) (id : Nat) : id ∈ m.nodes ↔ (loc id).isSome = true := by
  constructor
  · intro h
    obtain ⟨p, hp, rfl⟩ := List.mem_map.1 h
    rw [R.flat] at hp
    obtain ⟨bb, hb, _, h2⟩ := flat_mem hp
    obtain ⟨e, he, rfl⟩ := List.mem_map.1 hb
    obtain ⟨k, hk⟩ := R.of_ids he h2
    rw [(R.at_ p.1 e.nd k).2 ⟨e, he, rfl, hk⟩]; rfl
  · intro h
    obtain ⟨⟨b, k⟩, hl⟩ := Option.isSome_iff_exists.1 h
    obtain ⟨e, he, _, hk⟩ := (R.at_ id b k).1 hl
    have h1 : (id, e.ids.1) ∈ m.l := by rw [R.flat]; exact flat_in (List.mem_map.2 ⟨e, he, rfl⟩) (ids_mem hk)
    exact List.mem_map.2 ⟨_, h1, rfl⟩
theorem RkI.has (R : RkI m L loc) (id : Nat) : (placeC m.l (id : Int)).isSome = (loc id).isSome := by
  rw [place_node]
  cases h : (loc id).isSome with
  | true => exact decide_eq_true ((R.mem id).2 h)
  | false => exact decide_eq_false fun hm => by have := (R.mem id).1 hm; rw [h] at this; cases this
/-- An element's bucket and its place there. -/
theorem RkI.split (R : RkI m L loc) (h : loc id = some (b, k)) : ∃ L1 e L2 K1 K2, L = L1 ++ e :: L2 ∧ e.nd = b ∧ e.q.l = K1 ++ (k, (id : Int)) :: K2 := by
  obtain ⟨e, he, hb, hk⟩ := (R.at_ id b k).1 h
  obtain ⟨L1, L2, h1⟩ := List.append_of_mem he
  obtain ⟨K1, K2, h2⟩ := List.append_of_mem hk
  exact ⟨L1, e, L2, K1, K2, h1, hb, h2⟩
theorem ids_split (h : e.q.l = K1 ++ (k, (id : Int)) :: K2) : e.ids = (e.ct, (K1.map Prod.snd).map Int.toNat ++ id :: (K2.map Prod.snd).map Int.toNat) := by
  unfold Bk.ids CSt.vals
  rw [h]; simp
theorem RkI.form (R : RkI m (L1 ++ e :: L2) loc) (h : e.q.l = K1 ++ (k, (id : Int)) :: K2) :
    m.l = flatB (L1.map Bk.ids ++ (e.ct, (K1.map Prod.snd).map Int.toNat ++ id :: (K2.map Prod.snd).map Int.toNat) :: L2.map Bk.ids) := by
  rw [R.flat, List.map_append, List.map_cons, ids_split h]
/-- Its count. -/
theorem RkI.count (R : RkI m (L1 ++ e :: L2) loc) (h : e.q.l = K1 ++ (k, (id : Int)) :: K2) : m.value 0 (id : Int) = (e.ct, 0) ∧ m.countR (id : Int) = (e.ct, true) := by
  obtain ⟨_, h2, h3⟩ := rem_in R.good.c (R.form h)
  refine ⟨h2, ?_⟩
  unfold CSt.countR
  rw [h2, h3]
theorem RkI.nd_ne (R : RkI m (L1 ++ e :: L2) loc) {e' : Bk} (h : e' ∈ L1 ++ L2) : e'.nd ≠ e.nd := fun hc => by
  have ha := R.nds
  rw [List.map_append, List.map_cons] at ha
  have h1 := (List.perm_middle (a := e.nd) (l₁ := L1.map Bk.nd) (l₂ := L2.map Bk.nd)).nodup_iff.1 ha
  refine (List.nodup_cons.1 h1).1 ?_
  rw [← hc, ← List.map_append]
  exact List.mem_map.2 ⟨e', h, rfl⟩
/-- No element lies twice. -/
theorem RkI.once (R : RkI m (L1 ++ e :: L2) loc) (h : e.q.l = K1 ++ (k, (id : Int)) :: K2) : loc id = some (e.nd, k) := (R.at_ id e.nd k).2 ⟨e, by simp, rfl, by rw [h]; simp⟩
theorem mem_mid {x : Bk} (h : x ∈ L1 ++ L2) (e : Bk) : x ∈ L1 ++ e :: L2 := by
  rcases List.mem_append.1 h with h | h <;> simp [h]
theorem mid_mem {x : Bk} (h : x ∈ L1 ++ e :: L2) : x = e ∨ x ∈ L1 ++ L2 := by
  rcases List.mem_append.1 h with h | h
  · exact .inr (by simp [h])
  · rcases List.mem_cons.1 h with h | h
    · exact .inl h
    · exact .inr (by simp [h])
/-- An element goes; its bucket stays, or goes too. -/
theorem RkI.take (R : RkI m (L1 ++ e :: L2) loc) (h : e.q.l = K1 ++ (k, (id : Int)) :: K2) :
    e.q.rem (k : Int) = { e.q with l := K1 ++ K2 } ∧ (K1 ++ K2 ≠ [] → RkI (m.rem (id : Int)) (L1 ++ { e with q := e.q.rem (k : Int) } :: L2) (locSet loc id none)) ∧ (K1 ++ K2 = [] → RkI (m.rem (id : Int)) (L1 ++ L2) (locSet loc id none)) := by
  have hq := R.qs e (by simp)
  obtain ⟨_, r2, _⟩ := rem_split hq h
  obtain ⟨f1, _, _⟩ := rem_in R.good.c (R.form h)
  have hG : GoodR (m.rem (id : Int)) := R.good.rem _
  have hn : (m.rem (id : Int)).n = m.n := by rw [f1]
  have hnd := hq.nd
  unfold CSt.nodes at hnd
  rw [h, List.map_append, List.map_cons] at hnd
  have hk : ∀ z, (k, z) ∉ K1 ++ K2 := fun z hz => by
    have h1 := (List.perm_middle (a := k) (l₁ := K1.map Prod.fst) (l₂ := K2.map Prod.fst)).nodup_iff.1 hnd
    refine (List.nodup_cons.1 h1).1 ?_
    rw [← List.map_append]
    exact List.mem_map.2 ⟨_, hz, rfl⟩
  have hat : ∀ id' b' k', id' ≠ id → (loc id' = some (b', k') ↔ (e.nd = b' ∧ (k', (id' : Int)) ∈ K1 ++ K2) ∨ ∃ e' ∈ L1 ++ L2, e'.nd = b' ∧ (k', (id' : Int)) ∈ e'.q.l) := fun id' b' k' hne => by
    rw [R.at_]
    constructor
    · rintro ⟨e', he', h1, h2⟩
      rcases mid_mem he' with rfl | h3
      · refine .inl ⟨h1, ?_⟩
        rw [h] at h2
        rcases List.mem_append.1 h2 with h4 | h4
        · simp [h4]
        · rcases List.mem_cons.1 h4 with h5 | h5
          · injection h5 with _ h5; omega
          · simp [h5]
      · exact .inr ⟨e', h3, h1, h2⟩
    · rintro (⟨h1, h2⟩ | ⟨e', h3, h1, h2⟩)
      · refine ⟨e, by simp, h1, ?_⟩
        rw [h]
        rcases List.mem_append.1 h2 with h4 | h4 <;> simp [h4]
      · exact ⟨e', mem_mid h3 e, h1, h2⟩
  have hid : ∀ b' k', ¬ ((e.nd = b' ∧ (k', (id : Int)) ∈ K1 ++ K2) ∨ ∃ e' ∈ L1 ++ L2, e'.nd = b' ∧ (k', (id : Int)) ∈ e'.q.l) := by
    intro b' k' hx
    have h0 := R.once h
    have h1 : loc id = some (b', k') := (R.at_ id b' k').2 (by
      rcases hx with ⟨h1, h2⟩ | ⟨e', h3, h1, h2⟩
      · refine ⟨e, by simp, h1, ?_⟩
        rw [h]
        rcases List.mem_append.1 h2 with h4 | h4 <;> simp [h4]
      · exact ⟨e', mem_mid h3 e, h1, h2⟩)
    rw [h0] at h1
    injection h1 with h1
    injection h1 with h1 h2
    subst h2
    rcases hx with ⟨_, h3⟩ | ⟨e', h3, h4, _⟩
    · exact hk _ h3
    · exact R.nd_ne h3 (by rw [h4, h1])
  have hasc := R.asc
  refine ⟨r2, fun hne => ?_, fun h0 => ?_⟩
  · rw [r2]
    refine ⟨hG, ?_, ?_, fun e' he' => ?_, fun e' he' => ?_, fun e' he' => ?_, fun e' he' => ?_, ?_, fun id' b' k' => ?_⟩
    · rw [f1, List.map_append, List.map_cons]
      show flatB _ = flatB (_ ++ (e.ct, ((K1 ++ K2).map Prod.snd).map Int.toNat) :: _)
      rw [List.map_append, List.map_append]
    · rw [List.pairwise_append] at hasc ⊢
      rw [List.pairwise_cons] at hasc ⊢
      obtain ⟨a1, ⟨a2, a3⟩, a4⟩ := hasc
      exact ⟨a1, ⟨a2, a3⟩, fun x hx y hy => by
        rcases List.mem_cons.1 hy with rfl | hy
        · exact a4 x hx e (by simp)
        · exact a4 x hx y (by simp [hy])⟩
    · rcases mid_mem he' with rfl | h3
      · exact hne
      · exact R.full e' (mem_mid h3 e)
    · rw [hn]
      rcases mid_mem he' with rfl | h3
      · exact R.size e (by simp)
      · exact R.size e' (mem_mid h3 e)
    · rcases mid_mem he' with rfl | h3
      · have := hq.rem (k : Int)
        rw [r2] at this
        exact this
      · exact R.qs e' (mem_mid h3 e)
    · rcases mid_mem he' with rfl | h3
      · intro p hp
        exact R.vals e (by simp) p (by rw [h]; rcases List.mem_append.1 hp with h4 | h4 <;> simp [h4])
      · exact R.vals e' (mem_mid h3 e)
    · simpa using R.nds
    · unfold locSet
      have key : (∃ e' ∈ L1 ++ { e with q := { e.q with l := K1 ++ K2 } } :: L2, e'.nd = b' ∧ (k', (id' : Int)) ∈ e'.q.l) ↔ ((e.nd = b' ∧ (k', (id' : Int)) ∈ K1 ++ K2) ∨ ∃ e' ∈ L1 ++ L2, e'.nd = b' ∧ (k', (id' : Int)) ∈ e'.q.l) := by
        constructor
        · rintro ⟨e', he', h1, h2⟩
          rcases mid_mem he' with rfl | h3
          · exact .inl ⟨h1, h2⟩
          · exact .inr ⟨e', h3, h1, h2⟩
        · rintro (⟨h1, h2⟩ | ⟨e', h3, h1, h2⟩)
          · exact ⟨{ e with q := { e.q with l := K1 ++ K2 } }, by simp, h1, h2⟩
          · exact ⟨e', mem_mid h3 _, h1, h2⟩
      rw [key]
      by_cases hi : id' = id
      · subst hi
        rw [if_pos rfl]
        exact ⟨fun hx => (by cases hx), fun hx => absurd hx (hid b' k')⟩
      · rw [if_neg hi]
        exact hat id' b' k' hi
  · refine ⟨hG, ?_, ?_, fun e' he' => R.full e' (mem_mid he' e), fun e' he' => by rw [hn]; exact R.size e' (mem_mid he' e), fun e' he' => R.qs e' (mem_mid he' e), fun e' he' => R.vals e' (mem_mid he' e), ?_, fun id' b' k' => ?_⟩
    · rw [f1]
      show flatB _ = _
      rw [← List.map_append, ← List.map_append, h0, List.map_nil, List.map_nil, flat_gone, List.map_append]
    · rw [List.pairwise_append] at hasc ⊢
      rw [List.pairwise_cons] at hasc
      obtain ⟨a1, ⟨a2, a3⟩, a4⟩ := hasc
      exact ⟨a1, a3, fun x hx y hy => a4 x hx y (by simp [hy])⟩
    · have ha := R.nds
      rw [List.map_append, List.map_cons] at ha
      have h1 := (List.perm_middle (a := e.nd) (l₁ := L1.map Bk.nd) (l₂ := L2.map Bk.nd)).nodup_iff.1 ha
      rw [List.map_append]
      exact (List.nodup_cons.1 h1).2
    · unfold locSet
      by_cases hi : id' = id
      · subst hi
        rw [if_pos rfl]
        exact ⟨fun hx => (by cases hx), fun hx => absurd (.inr hx) (hid b' k')⟩
      · rw [if_neg hi, hat id' b' k' hi, h0]
        simp
theorem flat_len (L : List Bk) : ∀ e ∈ L, e.q.l.length ≤ (flatB (L.map Bk.ids)).length := by
  intro e he
  obtain ⟨A, B, rfl⟩ := List.append_of_mem he
  rw [List.map_append, List.map_cons, flat_app, flat_cons, List.length_append, List.length_append, List.length_map]
  have : e.ids.2.length = e.q.l.length := by unfold Bk.ids CSt.vals; simp
  omega
theorem flat_len2 : ∀ (L : List Bk), (∀ e ∈ L, e.q.l ≠ []) → L.length ≤ (flatB (L.map Bk.ids)).length
  | [], _ => Nat.zero_le _
  | e :: L, h => by
    have h1 := flat_len2 L fun e' he' => h e' (by simp [he'])
    have h2 := h e (by simp)
    rw [List.map_cons, flat_cons, List.length_append, List.length_map, List.length_cons]
    have h3 : e.ids.2.length = e.q.l.length := by unfold Bk.ids CSt.vals; simp
    have h4 : e.q.l.length ≠ 0 := fun hx => h2 (List.eq_nil_of_length_eq_zero hx)
    omega
/-- There is room. -/
theorem RkI.room (R : RkI m L loc) (hno : loc id = none) (hlt : id < m.n) : m.l.length < m.n ∧ (∀ e ∈ L, e.q.l.length < e.q.n) ∧ L.length < m.n := by
  have hm : id ∉ m.nodes := fun h => by have := (R.mem id).1 h; rw [hno] at this; cases this
  have h1 : m.l.length < m.n := by
    have h2 := nodup_into (l := id :: m.nodes) (l' := List.range m.n) (List.nodup_cons.2 ⟨hm, R.good.c.nd⟩) (fun y hy => by
      rcases List.mem_cons.1 hy with rfl | h
      · exact List.mem_range.2 hlt
      · exact List.mem_range.2 (R.good.c.lt y h))
    rw [List.length_cons, nodes_len, List.length_range] at h2
    exact h2
  refine ⟨h1, fun e he => ?_, ?_⟩
  · have := flat_len L e he
    rw [← R.flat] at this
    rw [R.size e he]; omega
  · have := flat_len2 L R.full
    rw [← R.flat] at this
    omega
theorem push_is {q : CSt Int} {x : Nat} {v : Int} (h : q.l.length < q.n) (hx : freeN q.nodes = x) : q.pushB v = (((x : Int), 0), { q with l := q.l ++ [(x, v)] }) := by
  have hx' : freeN (q.l.map Prod.fst) = x := hx
  unfold CSt.pushB CSt.ins
  rw [if_neg (by omega), hx]
  unfold insC
  rw [hx', List.take_length, List.drop_length]
theorem RkI.putG (R : RkI m L loc) (hno : loc id = none) (hlt : id < m.n) (h0 : 0 ≤ c) (h1 : c ≤ 9223372036854775808) : GoodR { m with l := putR m.l id c } := by
  have hm : id ∉ m.nodes := fun h => by have := (R.mem id).1 h; rw [hno] at this; cases this
  have hp : (placeC m.l (id : Int)).isSome = false := by rw [R.has, hno]; rfl
  have h2 : m.insR (id : Int) c = (0, { m with l := putR m.l id c }) := by
    unfold CSt.insR
    rw [if_neg (by omega), if_neg (by rw [hp]; exact Bool.false_ne_true), if_neg (by omega)]
    rfl
  have h3 := R.good.insR (id : Int) c h0
  rw [h2] at h3
  exact h3
/-- An element comes into a bucket that is there. -/
theorem RkI.push (R : RkI m (L1 ++ e :: L2) loc) (hno : loc id = none) (hlt : id < m.n) {x : Nat} (hx : freeN e.q.nodes = x) :
    e.q.pushB (id : Int) = (((x : Int), 0), { e.q with l := e.q.l ++ [(x, (id : Int))] }) ∧
      RkI { m with l := putR m.l id e.ct } (L1 ++ { e with q := { e.q with l := e.q.l ++ [(x, (id : Int))] } } :: L2) (locSet loc id (some (e.nd, x))) := by
  obtain ⟨r1, r2, r3⟩ := R.room hno hlt
  have hroom := r2 e (by simp)
  have hpush := push_is (v := (id : Int)) hroom hx
  have hasc := R.asc
  rw [List.pairwise_append] at hasc
  rw [List.pairwise_cons] at hasc
  obtain ⟨a1, ⟨a2, a3⟩, a4⟩ := hasc
  obtain ⟨k0, z0, hkz⟩ : ∃ k0 z0, (k0, z0) ∈ e.q.l := by
    cases h : e.q.l with
    | nil => exact absurd h (R.full e (by simp))
    | cons p l => exact ⟨p.1, p.2, by simp⟩
  have hct : 0 ≤ e.ct ∧ e.ct ≤ 9223372036854775808 := by
    have h1 : (z0.toNat, e.ids.1) ∈ m.l := by
      rw [R.flat]
      exact flat_in (List.mem_map.2 ⟨e, by simp, rfl⟩) (List.mem_map.2 ⟨z0, List.mem_map.2 ⟨_, hkz, rfl⟩, rfl⟩)
    exact R.good.bd _ h1
  have hq := R.qs e (by simp)
  refine ⟨hpush, R.putG hno hlt hct.1 hct.2, ?_, ?_, fun e' he' => ?_, fun e' he' => ?_, fun e' he' => ?_, fun e' he' => ?_, by simpa using R.nds, fun id' b' k' => ?_⟩
  · show putR m.l id e.ct = _
    rw [R.flat, List.map_append, List.map_cons, show e.ids = (e.ct, e.q.vals.map Int.toNat) from rfl, put_in (fun b hb => ?_) (fun b hb => ?_)]
    · rw [List.map_append, List.map_cons]
      show _ = flatB (_ ++ (e.ct, ((e.q.l ++ [(x, (id : Int))]).map Prod.snd).map Int.toNat) :: _)
      rw [List.map_append, List.map_append]
      rfl
    · obtain ⟨e', he', rfl⟩ := List.mem_map.1 hb
      exact a4 e' he' e (by simp)
    · obtain ⟨e', he', rfl⟩ := List.mem_map.1 hb
      exact a2 e' he'
  · rw [List.pairwise_append, List.pairwise_cons]
    exact ⟨a1, ⟨a2, a3⟩, fun y hy z hz => by
      rcases List.mem_cons.1 hz with rfl | hz
      · exact a4 y hy e (by simp)
      · exact a4 y hy z (by simp [hz])⟩
  · rcases mid_mem he' with rfl | h3
    · simp
    · exact R.full e' (mem_mid h3 e)
  · rcases mid_mem he' with rfl | h3
    · exact R.size e (by simp)
    · exact R.size e' (mem_mid h3 e)
  · rcases mid_mem he' with rfl | h3
    · have := hq.ins e.q.l.length (id : Int)
      rw [show e.q.ins e.q.l.length (id : Int) = e.q.pushB (id : Int) from rfl, hpush] at this
      exact this
    · exact R.qs e' (mem_mid h3 e)
  · rcases mid_mem he' with rfl | h3
    · intro p hp
      rcases List.mem_append.1 hp with h4 | h4
      · exact R.vals e (by simp) p h4
      · rw [List.mem_singleton.1 h4]; show (0 : Int) ≤ (id : Int); omega
    · exact R.vals e' (mem_mid h3 e)
  · unfold locSet
    by_cases hi : id' = id
    · subst hi
      rw [if_pos rfl]
      constructor
      · intro hx'
        injection hx' with hx'; injection hx' with h1 h2
        exact ⟨{ e with q := { e.q with l := e.q.l ++ [(x, (id' : Int))] } }, by simp, h1, by rw [← h2]; simp⟩
      · rintro ⟨e', he', h1, h2⟩
        rcases mid_mem he' with rfl | h3
        · rcases List.mem_append.1 h2 with h4 | h4
          · have := (R.at_ id' e.nd k').2 ⟨e, by simp, rfl, h4⟩
            rw [hno] at this; cases this
          · have h5 := List.mem_singleton.1 h4
            injection h5 with h5 _
            rw [h5]
            exact congrArg (fun z => some (z, x)) h1
        · have := (R.at_ id' b' k').2 ⟨e', mem_mid h3 e, h1, h2⟩
          rw [hno] at this; cases this
    · rw [if_neg hi, R.at_]
      constructor
      · rintro ⟨e', he', h1, h2⟩
        rcases mid_mem he' with rfl | h3
        · exact ⟨{ e' with q := { e'.q with l := e'.q.l ++ [(x, (id : Int))] } }, by simp, h1, by show _ ∈ e'.q.l ++ _; simp [h2]⟩
        · exact ⟨e', mem_mid h3 _, h1, h2⟩
      · rintro ⟨e', he', h1, h2⟩
        rcases mid_mem he' with rfl | h3
        · refine ⟨e, by simp, h1, ?_⟩
          rcases List.mem_append.1 h2 with h4 | h4
          · exact h4
          · have h5 := List.mem_singleton.1 h4
            injection h5 with _ h5; omega
        · exact ⟨e', mem_mid h3 e, h1, h2⟩
/-- An element comes into a new bucket. -/
theorem RkI.fresh (R : RkI m (L1 ++ L2) loc) (hno : loc id = none) (hlt : id < m.n) (h1 : ∀ e ∈ L1, e.ct < c) (h2 : ∀ e ∈ L2, c < e.ct) (h0 : 0 ≤ c) (h3 : c ≤ 9223372036854775808) {x blk cc : Nat} (hx : x ∉ (L1 ++ L2).map Bk.nd) :
    (newC Int m.n).pushB (id : Int) = ((0, 0), { n := m.n, l := [(0, (id : Int))] }) ∧
      RkI { m with l := putR m.l id c } (L1 ++ { nd := x, ct := c, blk := blk, cc := cc, q := { n := m.n, l := [(0, (id : Int))] } } :: L2) (locSet loc id (some (x, 0))) := by
  obtain ⟨r1, r2, r3⟩ := R.room hno hlt
  have hn1 := R.good.c.n1
  have hf : freeN ([] : List Nat) = 0 := freeN_is (by simp) (fun j hj => absurd hj (Nat.not_lt_zero _))
  have hpush : (newC Int m.n).pushB (id : Int) = ((0, 0), { n := m.n, l := [(0, (id : Int))] }) := push_is (q := newC Int m.n) (x := 0) (v := (id : Int)) (by show 0 < m.n; omega) hf
  have hG := R.putG hno hlt h0 h3
  have hq := (newC_good (α := Int) hn1 R.good.c.n8).ins 0 (id : Int)
  rw [show (newC Int m.n).ins 0 (id : Int) = (newC Int m.n).pushB (id : Int) from rfl, hpush] at hq
  have hasc := R.asc
  rw [List.pairwise_append] at hasc
  obtain ⟨a1, a2, a3⟩ := hasc
  refine ⟨hpush, hG, ?_, ?_, fun e' he' => ?_, fun e' he' => ?_, fun e' he' => ?_, fun e' he' => ?_, ?_, fun id' b' k' => ?_⟩
  · show putR m.l id c = _
    rw [R.flat, List.map_append, put_new (fun b hb => ?_) (fun b hb => ?_)]
    · rw [List.map_append, List.map_cons]
      rfl
    · obtain ⟨e', he', rfl⟩ := List.mem_map.1 hb
      exact h1 e' he'
    · obtain ⟨e', he', rfl⟩ := List.mem_map.1 hb
      exact h2 e' he'
  · rw [List.pairwise_append, List.pairwise_cons]
    exact ⟨a1, ⟨fun y hy => h2 y hy, a2⟩, fun y hy z hz => by
      rcases List.mem_cons.1 hz with rfl | hz
      · exact h1 y hy
      · exact a3 y hy z hz⟩
  · rcases mid_mem he' with rfl | h4
    · simp
    · exact R.full e' h4
  · rcases mid_mem he' with rfl | h4
    · rfl
    · exact R.size e' h4
  · rcases mid_mem he' with rfl | h4
    · exact hq
    · exact R.qs e' h4
  · rcases mid_mem he' with rfl | h4
    · intro p hp
      rw [List.mem_singleton.1 hp]; show (0 : Int) ≤ (id : Int); omega
    · exact R.vals e' h4
  · rw [List.map_append, List.map_cons]
    refine (List.perm_middle (a := x) (l₁ := L1.map Bk.nd) (l₂ := L2.map Bk.nd)).nodup_iff.2 (List.nodup_cons.2 ⟨?_, ?_⟩)
    · rw [← List.map_append]; exact hx
    · rw [← List.map_append]; exact R.nds
  · unfold locSet
    by_cases hi : id' = id
    · subst hi
      rw [if_pos rfl]
      constructor
      · intro hx'
        injection hx' with hx'; injection hx' with g1 g2
        exact ⟨{ nd := x, ct := c, blk := blk, cc := cc, q := { n := m.n, l := [(0, (id' : Int))] } }, by simp, g1, by rw [← g2]; simp⟩
      · rintro ⟨e', he', g1, g2⟩
        rcases mid_mem he' with rfl | g3
        · have h5 := List.mem_singleton.1 g2
          injection h5 with h5 _
          rw [h5]
          exact congrArg (fun z => some (z, 0)) g1
        · have := (R.at_ id' b' k').2 ⟨e', g3, g1, g2⟩
          rw [hno] at this; cases this
    · rw [if_neg hi, R.at_]
      constructor
      · rintro ⟨e', he', g1, g2⟩
        exact ⟨e', mem_mid he' _, g1, g2⟩
      · rintro ⟨e', he', g1, g2⟩
        rcases mid_mem he' with rfl | g3
        · have h5 := List.mem_singleton.1 g2
          injection h5 with _ h5; omega
        · exact ⟨e', g3, g1, g2⟩
end
end Go.Proofs.YtlfhkhnhcckajaaGreatDoor

/- The specified order (heavykeysref08.Ranks) in memory: New, Count, Least, put. Conditions: none beyond those typed. -/
namespace Go.Proofs.YtlfhkhnhcckajaaGreatDoor
open Go.ChangeShapes Go.WideShapes Go.ChangeAt Go.RowKit
set_option linter.unusedVariables false
set_option linter.unusedSimpArgs false
set_option maxRecDepth 100000

section
variable {P : Nat → Prop} {col col' : Col} {w w' : World} {k g n d : Nat} {m : CSt Int} {vN vV v' : Value} {i : Nat} {p : Nat × Int} {x : Int}
def rnkE (n : Int) : Int := if n < 1 ∨ 8192 < n then 1 else 0
theorem newR_good {n : Nat} (h1 : 1 ≤ n) (h8 : n ≤ 8192) : GoodR (newC Int n) := ⟨newC_good h1 h8, List.Pairwise.nil, fun p hp => by simp [newC] at hp⟩
theorem plR_none {l : List (Nat × Int)} {z : Int} (h : placeC l z = none) : plC l z = -1 := by unfold plC; rw [h]
theorem plR_some {l : List (Nat × Int)} {z : Int} {i : Nat} (h : placeC l z = some i) : plC l z = (i : Int) := by unfold plC; rw [h]
theorem putR_ns (l : List (Nat × Int)) (d : Nat) (x : Int) : (putR l d x).map (fun p => (p.1 : Int)) = ((l.map fun p => (p.1 : Int)).take (posR l x) ++ [(d : Int)]) ++ (l.map fun p => (p.1 : Int)).drop (posR l x) := by unfold putR; simp [List.map_take, List.map_drop]
theorem putR_vs (l : List (Nat × Int)) (d : Nat) (x : Int) : (putR l d x).map Prod.snd = ((l.map Prod.snd).take (posR l x) ++ [x]) ++ (l.map Prod.snd).drop (posR l x) := by unfold putR; simp [List.map_take, List.map_drop]
end
end Go.Proofs.YtlfhkhnhcckajaaGreatDoor

/- The specified order (heavykeysref08.Ranks) in memory: Remove. Conditions: none beyond those typed. -/
namespace Go.Proofs.YtlfhkhnhcckajaaGreatDoor
open Go.ChangeShapes Go.WideShapes Go.ChangeAt Go.RowKit
set_option linter.unusedVariables false
set_option linter.unusedSimpArgs false
set_option maxRecDepth 100000

section
variable {P : Nat → Prop} {col col' : Col} {w w' : World} {k g n : Nat} {m : CSt Int} {vN vV v' : Value} {i : Nat} {p : Nat × Int}
theorem remR_ns (l : List (Nat × Int)) (i : Nat) : (remC l i).map (fun p => (p.1 : Int)) = (l.map fun p => (p.1 : Int)).take i ++ (l.map fun p => (p.1 : Int)).drop (i + 1) := by unfold remC; simp [List.map_take, List.map_drop]
theorem remR_vs (l : List (Nat × Int)) (i : Nat) : (remC l i).map Prod.snd = (l.map Prod.snd).take i ++ (l.map Prod.snd).drop (i + 1) := by unfold remC; simp [List.map_take, List.map_drop]
end
end Go.Proofs.YtlfhkhnhcckajaaGreatDoor

/- All that the statements use of the program's orders, as one structure of contracts over a representation. Conditions: none beyond those typed. -/
namespace Go.Proofs.YtlfhkhnhcckajaaGreatDoor
open Go.ChangeShapes Go.WideShapes Go.ChangeAt Go.RowKit
set_option linter.unusedVariables false
set_option linter.unusedSimpArgs false

/-- Order m lies in block g, with the base colour k. -/
abbrev RepR := Col → Nat → World → Nat → CSt Int → Prop
def DidPR (PR : RepR) (col : Col) (k : Nat) (w : World) (g : Nat) (m : CSt Int) (w' : World) : Prop := ∃ col', PR col' k w' g m ∧ StepC (Rng k) col w col' w'
def NewPR (PR : RepR) (col : Col) (k : Nat) (n : Int) (w : World) (e : Ending) (w' : World) : Prop :=
  (rnkE n = 0 ∧ ∃ g, e = .returned (.tuple #[.pointer (some ⟨g, 0, none⟩), .int .i64 0]) ∧ DidPR PR col k w g (newC Int n.toNat) w') ∨ (rnkE n = 1 ∧ e = .returned (.tuple #[.pointer none, .int .i64 1]) ∧ Below w.heap.size w w')
def U64 (z : Int) : Prop := 0 ≤ z ∧ z ≤ 18446744073709551615
/-- Nothing elder has turned, and an order. -/
structure AtR (PR : RepR) (w0 : World) (col : Col) (W : World) (k g : Nat) (m : CSt Int) : Prop where
  since : Since w0 col W
  pr : PR col k W g m
section
variable {PR : RepR} {w0 W W' : World} {col col' : Col} {k g : Nat} {m m' : CSt Int}
theorem AtR.tidy (h : AtR PR w0 col W k g m) : Tidy col W := h.since.tidy
theorem AtR.did (h : AtR PR w0 col W k g m) (hk : 1 ≤ k) (hd : DidPR PR col k W g m' W') : ∃ col', AtR PR w0 col' W' k g m' := by
  obtain ⟨col', h1, s⟩ := hd
  exact ⟨col', h.since.step s (rng0 hk), h1⟩
end
end Go.Proofs.YtlfhkhnhcckajaaGreatDoor
