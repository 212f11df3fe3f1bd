/- A list of buckets, each with a list of numbers of its own, in memory: every list has colours of its own. Conditions: none beyond those typed. -/
import Derived.Test.YtopjnalehllgcaaDoorLr
import Derived.Test.YtopjnalehllgcaaDoorLq
import Derived.Test.YtopjnalehllgcaaDoorRbuck
import Derived.Test.YtopjnalehllgcaaDoorFine
namespace Go.Proofs.YtopjnalehllgcaaDoor
open Go.ChangeShapes Go.WideShapes Go.ChangeAt Go.RowKit
set_option linter.unusedVariables false
set_option linter.unusedSimpArgs false
set_option maxRecDepth 100000

/-- A bucket: its node, its count, the block of its list, the number of its colours, its list. -/
structure Bk where
  nd : Nat
  ct : Int
  blk : Nat
  cc : Nat
  q : CSt Int
def Bk.kk (e : Bk) : Nat := 48 + 16 * e.cc
def Bk.val (e : Bk) : Int × Option Addr := (e.ct, some ⟨e.blk, 0, none⟩)
def Bk.row (e : Bk) : Nat × Int × Option Addr := (e.nd, e.val)
def Bk.ids (e : Bk) : Int × List Nat := (e.ct, e.q.vals.map Int.toNat)
/-- The buckets L; f: colours that no list has yet. -/
structure Bks (c2 : Col) (w : World) (gB f : Nat) (M : CSt (Int × Option Addr)) (L : List Bk) : Prop where
  outer : PLb c2 32 w gB M
  rows : M.l = L.map Bk.row
  inner : ∀ e ∈ L, PLi c2 e.kk w e.blk e.q
  apart : (L.map Bk.cc).Nodup
  few : ∀ e ∈ L, e.cc < f
section
variable {P : Nat → Prop} {c2 c2' : Col} {w w' : World} {gB f f' : Nat} {M M' : CSt (Int × Option Addr)} {L L1 L2 L' : List Bk} {e : Bk} {q' : CSt Int} {i : Nat}
theorem kk_far {e e' : Bk} (h : e.cc ≠ e'.cc) : ∀ c, Rng e.kk c → ¬ Rng e'.kk c := rngs_no (by unfold Bk.kk; omega)
theorem kk_outer (e : Bk) : ∀ c, Rng e.kk c → ¬ Rng 32 c := rngs_no (by unfold Bk.kk; omega)
theorem outer_kk (e : Bk) : ∀ c, Rng 32 c → ¬ Rng e.kk c := rngs_no (by unfold Bk.kk; omega)
theorem kk_pos (e : Bk) : 1 ≤ e.kk := by unfold Bk.kk; omega
theorem Bks.keep (h : Bks c2 w gB f M L) (hs : StepC P c2 w c2' w') (hP : ∀ c, 32 ≤ c → ¬ P c) (h0 : ¬ P 0) : Bks c2' w' gB f M L :=
  ⟨h.outer.keep hs (fun c hc => hP c hc.1) h0, h.rows, fun e he => (h.inner e he).keep hs (fun c hc => hP c (by have := hc.1; unfold Bk.kk at this; omega)) h0, h.apart, h.few⟩
theorem Bks.below (h : Bks c2 w gB f M L) (ht : Tidy c2 w) (hb : Below w.heap.size w w') : Bks c2 w' gB f M L := h.keep (P := fun _ => False) (StepC.below ht hb) (fun _ _ h => h) (fun h => h)
/-- The list of one bucket changes. -/
theorem Bks.inn (h : Bks c2 w gB f M (L1 ++ e :: L2)) (h' : PLi c2' e.kk w' e.blk q') (hs : StepC (Rng e.kk) c2 w c2' w') : Bks c2' w' gB f M (L1 ++ { e with q := q' } :: L2) := by
  have ha := h.apart
  have hne : ∀ e' ∈ L1 ++ L2, e'.cc ≠ e.cc := fun e' he' hc => by
    rw [List.map_append, List.map_cons] at ha
    have h1 := (List.perm_middle (a := e.cc) (l₁ := L1.map Bk.cc) (l₂ := L2.map Bk.cc)).nodup_iff.1 ha
    refine (List.nodup_cons.1 h1).1 ?_
    rw [← hc, ← List.map_append]
    exact List.mem_map.2 ⟨e', he', rfl⟩
  refine ⟨h.outer.keep hs (outer_kk e) (rng0 (kk_pos e)), by rw [h.rows]; simp [Bk.row, Bk.val], fun e' he' => ?_, by simpa using ha, fun e' he' => ?_⟩
  · rcases List.mem_append.1 he' with h1 | h1
    · exact (h.inner e' (by simp [h1])).keep hs (kk_far (hne e' (by simp [h1]))) (rng0 (kk_pos e))
    · rcases List.mem_cons.1 h1 with h2 | h2
      · subst h2; exact h'
      · exact (h.inner e' (by simp [h2])).keep hs (kk_far (hne e' (by simp [h2]))) (rng0 (kk_pos e))
  · rcases List.mem_append.1 he' with h1 | h1
    · exact h.few e' (by simp [h1])
    · rcases List.mem_cons.1 h1 with h2 | h2
      · subst h2; exact h.few e (by simp)
      · exact h.few e' (by simp [h2])
/-- The list of buckets changes. -/
theorem Bks.out (h' : PLb c2' 32 w' gB M') (hs : StepC (Rng 32) c2 w c2' w') (hr : M'.l = L'.map Bk.row) (hi : ∀ e ∈ L', PLi c2 e.kk w e.blk e.q) (ha : (L'.map Bk.cc).Nodup) (hf : ∀ e ∈ L', e.cc < f') : Bks c2' w' gB f' M' L' :=
  ⟨h', hr, fun e he => (hi e he).keep hs (kk_outer e) (rng0 (by omega)), ha, hf⟩
/-- A list with colours that no list has had. -/
theorem Bks.fresh (h : Bks c2 w gB f M L) (hs : StepC (Rng (48 + 16 * f)) c2 w c2' w') : Bks c2' w' gB f M L :=
  ⟨h.outer.keep hs (rngs_no (by omega)) (rng0 (by omega)), h.rows, fun e he => (h.inner e he).keep hs (rngs_no (by have := h.few e he; unfold Bk.kk; omega)) (rng0 (by omega)), h.apart, h.few⟩
/-- The place of a bucket's node. -/
theorem Bks.place (h : Bks c2 w gB f M (L1 ++ e :: L2)) : placeC M.l (e.nd : Int) = some L1.length ∧ M.value ((0, none) : Int × Option Addr) (e.nd : Int) = (e.val, 0) := by
  obtain ⟨_, _, _, _, _, _, _, _, _, R⟩ := h.outer
  have hat : M.l[L1.length]? = some e.row := by rw [h.rows, List.map_append, List.map_cons, List.getElem?_append_right (by simp)]; simp
  have hp : placeC M.l (e.nd : Int) = some L1.length := place_is R.good hat
  refine ⟨hp, ?_⟩
  unfold CSt.value
  rw [hp]
  show (((M.l[L1.length]?).map Prod.snd).getD _, (0 : Int)) = _
  rw [hat]; rfl
/-- The node before, the node behind. -/
theorem Bks.by_ (h : Bks c2 w gB f M (L1 ++ e :: L2)) : M.by_ (e.nd : Int) 1 = (match L2 with | [] => -1 | e' :: _ => (e'.nd : Int)) ∧ M.by_ (e.nd : Int) (-1) = (match L1.getLast? with | none => -1 | some e' => (e'.nd : Int)) := by
  have hp := h.place.1
  have hn : M.nodes = (L1 ++ e :: L2).map Bk.nd := by unfold CSt.nodes; rw [h.rows, List.map_map]; rfl
  have hl : M.l.length = L1.length + 1 + L2.length := by rw [h.rows]; simp; omega
  unfold CSt.by_
  rw [hp]
  constructor
  · show (if _ then _ else _) = _
    cases L2 with
    | nil => rw [if_pos (by simp at hl; omega)]
    | cons e' L2 =>
      rw [if_neg (by simp at hl; omega), hn, show ((L1.length : Int) + 1).toNat = L1.length + 1 by omega, List.getD_eq_getElem?_getD, List.map_append, List.map_cons, List.map_cons, List.getElem?_append_right (by simp)]
      simp
  · show (if _ then _ else _) = _
    cases hL : L1.getLast? with
    | none =>
      have h1 : L1 = [] := List.getLast?_eq_none_iff.1 hL
      subst h1
      rw [if_pos (by simp)]
    | some e' =>
      obtain ⟨L0, h1⟩ := List.getLast?_eq_some_iff.1 hL
      subst h1
      rw [if_neg (by simp at hl ⊢; omega), hn, show (((L0 ++ [e']).length : Int) + -1).toNat = L0.length by simp; omega, List.getD_eq_getElem?_getD]
      simp
/-- The first node. -/
theorem Bks.first (h : Bks c2 w gB f M L) : M.first = (match L with | [] => -1 | e :: _ => (e.nd : Int)) := by
  have hn : M.nodes = L.map Bk.nd := by unfold CSt.nodes; rw [h.rows, List.map_map]; rfl
  unfold CSt.first
  rw [hn]
  cases L <;> rfl
end
end Go.Proofs.YtopjnalehllgcaaDoor
