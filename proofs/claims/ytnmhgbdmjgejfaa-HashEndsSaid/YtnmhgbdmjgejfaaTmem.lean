/- Words for memory: a slice that reads as a list of tags, a row of tags of the call's own, and append onto an owned one. Conditions: none beyond those typed. -/
import Derived.Test.YtnmhgbdmjgejfaaTfield
import Derived.Laws.OwnMore
import Derived.Deep.AppendLies
import Derived.Maps.AppendAt
import Derived.RegionTactic
import Derived.OwnWalk
namespace Go.Proofs.Ytnmhgbdmjgejfaa
open Go.ChangeShapes Go.WideShapes Go.ChangeAt Go.RowKit
set_option linter.unusedVariables false
set_option maxRecDepth 100000
set_option linter.unusedSimpArgs false

/-- The slice value '.slice A n c' reads as the tags l. -/
def RdT (w : World) (A : Option Addr) (n c : Nat) (l : List Tg) : Prop :=
  l.length = n ∧ n ≤ c ∧ c ≤ maxLen ∧ (∀ t ∈ l, t.1.size ≤ 140737488355328 ∧ t.2.size ≤ 140737488355328) ∧
    ∀ j t, l[j]? = some t → ∃ b o, A = some ⟨b, o, none⟩ ∧ w.cell? ⟨b, o + j * 2, none⟩ = some (.string t.1) ∧ w.cell? ⟨b, o + j * 2 + 1, none⟩ = some (.string t.2)

section
variable {w w' : World} {A : Option Addr} {n c : Nat} {l : List Tg}
theorem RdT.len (h : RdT w A n c l) : l.length = n := h.1
theorem RdT.cap (h : RdT w A n c l) : n ≤ c := h.2.1
theorem RdT.max (h : RdT w A n c l) : c ≤ 9223372036854775807 := h.2.2.1
theorem RdT.sizes (h : RdT w A n c l) : ∀ t ∈ l, t.1.size ≤ 140737488355328 ∧ t.2.size ≤ 140737488355328 := h.2.2.2.1
theorem RdT.at_ (h : RdT w A n c l) {k : Nat} (hk : k < n) :
    ∃ b o p q, A = some ⟨b, o, none⟩ ∧ l[k]? = some (p, q) ∧ p.size ≤ 140737488355328 ∧ q.size ≤ 140737488355328 ∧ b < w.heap.size ∧
      w.cell? ⟨b, o + k * 2, none⟩ = some (.string p) ∧ w.cell? ⟨b, o + k * 2 + 1, none⟩ = some (.string q) := by
  have hl : k < l.length := by rw [h.1]; exact hk
  have hg : l[k]? = some l[k] := List.getElem?_eq_getElem hl
  obtain ⟨b, o, hA, h1, h2⟩ := h.2.2.2.2 k _ hg
  have hs := h.sizes _ (List.getElem_mem hl)
  exact ⟨b, o, l[k].1, l[k].2, hA, hg, hs.1, hs.2, World.block_lt_of_cell? w ⟨b, o + k * 2, none⟩ h1, h1, h2⟩
theorem RdT.keep (h : RdT w A n c l) (hk : ∀ a v, w.cell? a = some v → w'.cell? a = some v) : RdT w' A n c l :=
  ⟨h.1, h.2.1, h.2.2.1, h.2.2.2.1, fun j t ht => by
    obtain ⟨b, o, hA, h1, h2⟩ := h.2.2.2.2 j t ht
    exact ⟨b, o, hA, hk _ _ h1, hk _ _ h2⟩⟩
theorem RdT.below (h : RdT w A n c l) (hb : Below w.heap.size w w') : RdT w' A n c l :=
  h.keep fun a v hc => (hb.cell (World.block_lt_of_cell? w a hc)).trans hc
theorem RdT.drewN (h : RdT w A n c l) (k : Nat) : RdT (w.drewN k) A n c l := h
theorem RdT.nil (w : World) (A : Option Addr) (c : Nat) (hc : c ≤ maxLen) : RdT w A 0 c [] :=
  ⟨rfl, Nat.zero_le _, hc, fun z hz => absurd hz (by simp), fun j z hz => by simp at hz⟩
theorem RdT.none_ (w : World) : RdT w none 0 0 [] := RdT.nil w _ _ (by simp [maxLen])
theorem RdT.alloc (h : RdT w A n c l) (o : Obj) : RdT (w.alloc o) A n c l := h.below ((Below.refl _ _).alloc (Nat.le_refl _) o)
end


def RepAt (l : List Tg) (k : Nat) : Prop := 1 ≤ k ∧ rep (l.drop (k - 1)) = rep l
theorem RepAt.one (l : List Tg) : RepAt l 1 := ⟨by omega, by simp⟩
theorem drop_two {l : List Tg} {k : Nat} {x y : Tg} (hk : 1 ≤ k) (hx : l[k - 1]? = some x) (hy : l[k]? = some y) : l.drop (k - 1) = x :: y :: l.drop (k + 1) := by
  have h1 : k - 1 < l.length := (List.getElem?_eq_some_iff.1 hx).1
  have h2 : k < l.length := (List.getElem?_eq_some_iff.1 hy).1
  have e1 : l[k - 1] = x := (List.getElem?_eq_some_iff.1 hx).2
  have e2 : l[k] = y := (List.getElem?_eq_some_iff.1 hy).2
  rw [List.drop_eq_getElem_cons h1, e1]
  have : k - 1 + 1 = k := by omega
  rw [this, List.drop_eq_getElem_cons h2, e2]
theorem RepAt.hit {l : List Tg} {k : Nat} {p q p' q' : ByteArray} (h : RepAt l k) (hx : l[k - 1]? = some (p', q')) (hy : l[k]? = some (p, q)) (he : (p.toList == p'.toList) = true) : rep l = true := by
  rw [← h.2, drop_two h.1 hx hy]
  have : nm (p', q') = nm (p, q) := by simp only [nm]; rw [← Lib.toList_data, ← Lib.toList_data]; exact (beq_iff_eq.1 he).symm
  simp [rep, this]
theorem RepAt.next {l : List Tg} {k : Nat} {p q p' q' : ByteArray} (h : RepAt l k) (hx : l[k - 1]? = some (p', q')) (hy : l[k]? = some (p, q)) (he : (p.toList == p'.toList) = false) : RepAt l (k + 1) := by
  refine ⟨by omega, ?_⟩
  rw [← h.2, drop_two h.1 hx hy]
  have hne : (nm (p', q') == nm (p, q)) = false := by
    simp only [nm]; rw [← Lib.toList_data, ← Lib.toList_data]
    rw [beq_eq_false_iff_ne] at he ⊢
    exact fun e => he e.symm
  have hd : l.drop (k + 1 - 1) = (p, q) :: l.drop (k + 1) := by
    have h2 : k < l.length := (List.getElem?_eq_some_iff.1 hy).1
    have : k + 1 - 1 = k := by omega
    rw [this, List.drop_eq_getElem_cons h2, (List.getElem?_eq_some_iff.1 hy).2]
  rw [hd]
  simp only [rep, hne, Bool.false_or]
theorem RepAt.end_ {l : List Tg} {k : Nat} (h : RepAt l k) (hl : l.length ≤ k) : rep l = false := by
  rw [← h.2]
  cases hd : l.drop (k - 1) with
  | nil => rfl
  | cons x r =>
    have : r = [] := by
      have : (l.drop (k - 1)).length = l.length - (k - 1) := List.length_drop
      rw [hd] at this
      simp only [List.length_cons] at this
      have := h.1
      exact List.eq_nil_of_length_eq_zero (by omega)
    subst this; rfl

end Go.Proofs.Ytnmhgbdmjgejfaa
