/- Words on tags that statements share: literal lists, boxes, heavykeysref01.SameTags on equal lists. Conditions: none beyond those typed. -/
import Derived.Test.YtnmhgbdmjgejfaaTkey
import Derived.Test.YtnmhgbdmjgejfaaTsame
namespace Go.Proofs.Ytnmhgbdmjgejfaa
open Go.ChangeShapes Go.WideShapes Go.ChangeAt Go.RowKit
set_option linter.unusedVariables false
set_option maxRecDepth 100000
set_option linter.unusedSimpArgs false

/-- A box stands behind a call that leaves alone what was there. -/
theorem box_next {W W' : World} {g : Nat} {p q : ByteArray} (h : W.cell? ⟨g, 0, none⟩ = some (.string p) ∧ W.cell? ⟨g, 1, none⟩ = some (.string q)) (hb : Below W.heap.size W W') :
    W'.cell? ⟨g, 0, none⟩ = some (.string p) ∧ W'.cell? ⟨g, 1, none⟩ = some (.string q) :=
  ⟨(hb.cell (p := ⟨g, 0, none⟩) (World.block_lt_of_cell? _ ⟨g, 0, none⟩ h.1)).trans h.1, (hb.cell (p := ⟨g, 1, none⟩) (World.block_lt_of_cell? _ ⟨g, 1, none⟩ h.2)).trans h.2⟩
theorem keyBy_le (l : List Tg) : (keyBy l).size ≤ 255 := by
  by_cases h : keyErr l = 0
  · unfold keyBy; rw [if_pos h]; show (joinT (srt l)).toArray.size ≤ 255; simpa using (keyErr_zero h).2
  · unfold keyBy; rw [if_neg h]; show (#[] : Array UInt8).size ≤ 255; simp

/-- The argument: a slice of tags, of whatever sizes. -/
def ArgT (w : World) (A : Option Addr) (n c : Nat) (l : List Tg) : Prop :=
  l.length = n ∧ n ≤ c ∧ c ≤ maxLen ∧ (∀ t ∈ l, t.1.size ≤ maxLen ∧ t.2.size ≤ maxLen) ∧
    ∀ j t, l[j]? = some t → ∃ b o, A = some ⟨b, o, none⟩ ∧ w.cell? ⟨b, o + j * 2, none⟩ = some (.string t.1) ∧ w.cell? ⟨b, o + j * 2 + 1, none⟩ = some (.string t.2)
theorem ArgT.at_ {w : World} {A : Option Addr} {n c : Nat} {l : List Tg} (h : ArgT w A n c l) {k : Nat} (hk : k < n) :
    ∃ b o p q, A = some ⟨b, o, none⟩ ∧ l[k]? = some (p, q) ∧ p.size ≤ 9223372036854775807 ∧ q.size ≤ 9223372036854775807 ∧ b < w.heap.size ∧
      w.cell? ⟨b, o + k * 2, none⟩ = some (.string p) ∧ w.cell? ⟨b, o + k * 2 + 1, none⟩ = some (.string q) := by
  have hl : k < l.length := by rw [h.1]; exact hk
  have hg : l[k]? = some l[k] := List.getElem?_eq_getElem hl
  obtain ⟨b, o, hA, h1, h2⟩ := h.2.2.2.2 k _ hg
  have hs := h.2.2.2.1 _ (List.getElem_mem hl)
  exact ⟨b, o, l[k].1, l[k].2, hA, hg, hs.1, hs.2, World.block_lt_of_cell? w ⟨b, o + k * 2, none⟩ h1, h1, h2⟩
theorem ArgT.below {w w' : World} {A : Option Addr} {n c : Nat} {l : List Tg} (h : ArgT w A n c l) (hb : Below w.heap.size w w') : ArgT w' A n c l :=
  ⟨h.1, h.2.1, h.2.2.1, h.2.2.2.1, fun j t ht => by
    obtain ⟨b, o, hA, h1, h2⟩ := h.2.2.2.2 j t ht
    have e1 := (hb.cell (World.block_lt_of_cell? w _ h1)).trans h1
    have e2 := (hb.cell (World.block_lt_of_cell? w _ h2)).trans h2
    exact ⟨b, o, hA, e1, e2⟩⟩
theorem three_cell (w : World) (x y z : Value) (t : TypeId) : (w.alloc (.cells #[x, y, z] t)).cell? ⟨w.heap.size, 0, none⟩ = some x ∧ (w.alloc (.cells #[x, y, z] t)).cell? ⟨w.heap.size, 1, none⟩ = some y ∧ (w.alloc (.cells #[x, y, z] t)).cell? ⟨w.heap.size, 2, none⟩ = some z := by
  refine ⟨?_, ?_, ?_⟩ <;> (rw [World.cell?_alloc_at _ _ _ _ rfl]; rfl)
end Go.Proofs.Ytnmhgbdmjgejfaa
