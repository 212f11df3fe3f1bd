/- The specified table: Sorted. Conditions: none beyond those typed. -/
import Derived.Test.YtbdafhephmoedaaSvref2
import Derived.Test.YtbdafhephmoedaaMmath
import Derived.Test.YtbdafhephmoedaaKout
namespace Go.Proofs.Ytbdafhephmoedaa
open Go.ChangeShapes Go.WideShapes Go.ChangeAt Go.RowKit
set_option linter.unusedVariables false
set_option linter.unusedSimpArgs false
set_option maxRecDepth 100000

/-- An entry comes behind those with lesser keys. -/
def insSE (out : List En) (e : En) : List En := out.take (placeM out e.1) ++ e :: out.drop (placeM out e.1)
/-- Entries in ascending order of their keys. -/
def sortE (l : List En) : List En := l.foldl insSE []
theorem insSE_len (out : List En) (e : En) : (insSE out e).length = out.length + 1 := by
  unfold insSE
  rw [List.length_append, List.length_cons, List.length_take, List.length_drop]
  have := place_le out e.1
  omega
theorem insSE_perm (out : List En) (e : En) : (insSE out e).Perm (e :: out) := by
  unfold insSE
  have := List.perm_middle (a := e) (l₁ := out.take (placeM out e.1)) (l₂ := out.drop (placeM out e.1))
  rwa [List.take_append_drop] at this
theorem foldSE_perm : ∀ (l out : List En), (l.foldl insSE out).Perm (l ++ out)
  | [], out => List.Perm.refl _
  | e :: l, out => (foldSE_perm l (insSE out e)).trans (by
      have h1 : (l ++ insSE out e).Perm (l ++ e :: out) := (insSE_perm out e).append_left l
      exact h1.trans List.perm_middle)
theorem sortE_perm (l : List En) : (sortE l).Perm l := by
  have := foldSE_perm l []
  rwa [List.append_nil] at this
theorem sortE_len (l : List En) : (sortE l).length = l.length := (sortE_perm l).length_eq
theorem sortE_next {l : List En} {i : Nat} {e : En} (h : l[i]? = some e) : sortE (l.take (i + 1)) = insSE (sortE (l.take i)) e := by
  unfold sortE
  rw [List.take_add_one, h, List.foldl_append]
  rfl
theorem placeM_is {out : List En} {s : ByteArray} {k : Nat} (hb : ∀ (j : Nat) (p : En), j < k → out[j]? = some p → sless p.1 s = true) (hk : ∀ p : En, out[k]? = some p → sless p.1 s = false) (hl : k ≤ out.length) : placeM out s = k := by
  rcases Nat.lt_trichotomy (placeM out s) k with h | h | h
  · obtain ⟨p, hp⟩ : ∃ p, out[placeM out s]? = some p := ⟨_, List.getElem?_eq_getElem (by omega)⟩
    have h1 := hb _ p h hp
    rw [place_at hp] at h1; cases h1
  · exact h
  · have h2 := place_le out s
    obtain ⟨p, hp⟩ : ∃ p, out[k]? = some p := ⟨_, List.getElem?_eq_getElem (by omega)⟩
    have h1 := place_before h hp
    rw [hk p hp] at h1; cases h1
theorem KE.mk' {W1 w : World} {g : Nat} {e : En} (c0 : W1.cell? ⟨g, 0, none⟩ = some (.string e.1)) (c1 : W1.cell? ⟨g, 1, none⟩ = some (.int .u64 e.2.1)) (c2 : W1.cell? ⟨g, 2, none⟩ = some (.int .u64 e.2.2)) (h : Below W1.heap.size W1 w) :
    w.cell? ⟨g, 0, none⟩ = some (.string e.1) ∧ w.cell? ⟨g, 1, none⟩ = some (.int .u64 e.2.1) ∧ w.cell? ⟨g, 2, none⟩ = some (.int .u64 e.2.2) ∧ Below W1.heap.size W1 w :=
  ⟨(h.cell (p := ⟨g, 0, none⟩) (World.block_lt_of_cell? _ _ c0)).trans c0, (h.cell (p := ⟨g, 1, none⟩) (World.block_lt_of_cell? _ _ c1)).trans c1, (h.cell (p := ⟨g, 2, none⟩) (World.block_lt_of_cell? _ _ c2)).trans c2, h⟩
theorem aZ (W : World) (m : Nat) (o : Obj) : W.heap.size + 1 = ((W.drewN m).alloc o).heap.size := by simp
theorem bq1 (W : World) (m : Nat) (o : Obj) : Below W.heap.size W ((W.drewN m).alloc o) := (below_drewN (Below.refl _ _) m).alloc (Nat.le_refl _) o
theorem bq2 (W : World) (m : Nat) (o o' : Obj) : Below W.heap.size W (((W.drewN m).alloc o).alloc o') := (bq1 W m o).alloc (bq1 W m o).size o'
end Go.Proofs.Ytbdafhephmoedaa
