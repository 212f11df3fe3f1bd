/- tags.Sort: the sorted tags, or the first error. Conditions: none beyond those typed. -/
import Derived.Test.YtnmhgbdmjgejfaaTown
namespace Go.Proofs.Ytnmhgbdmjgejfaa
open Go.ChangeShapes Go.WideShapes Go.ChangeAt Go.RowKit
set_option linter.unusedVariables false
set_option maxRecDepth 100000
set_option linter.unusedSimpArgs false

def AllOk (l : List Tg) (k : Nat) : Prop := ∀ x ∈ l.take k, vErr x = 0
theorem AllOk.zero (l : List Tg) : AllOk l 0 := fun x hx => by simp at hx
theorem AllOk.succ {l : List Tg} {k : Nat} {t : Tg} (h : AllOk l k) (ht : l[k]? = some t) (hv : vErr t = 0) : AllOk l (k + 1) := by
  intro x hx
  rw [List.take_add_one, ht] at hx
  rcases List.mem_append.1 hx with hx | hx
  · exact h x hx
  · simp at hx; subst hx; exact hv
theorem AllOk.all {l : List Tg} {k : Nat} (h : AllOk l k) (hl : l.length ≤ k) : ∀ x ∈ l, vErr x = 0 := by
  intro x hx
  exact h x (by rwa [List.take_of_length_le hl])
theorem sortErr_len {l : List Tg} (h : l.length = 0 ∨ l.length > 8) : sortErr l = 5 ∧ sortT l = [] := by
  have e : sortErr l = 5 := by unfold sortErr; rw [if_pos h]
  exact ⟨e, by unfold sortT; rw [e, if_neg (by decide)]⟩
theorem sortErr_bad {l : List Tg} {k : Nat} {t : Tg} (h1 : 0 < l.length) (h2 : l.length ≤ 8) (h : AllOk l k) (ht : l[k]? = some t) (hv : vErr t ≠ 0) : sortErr l = vErr t ∧ sortT l = [] := by
  have hf := fErr_take ht h hv
  have e : sortErr l = vErr t := by
    unfold sortErr; rw [if_neg (by omega), hf, if_neg hv]
  exact ⟨e, by unfold sortT; rw [e, if_neg hv]⟩
theorem sortErr_dup {l : List Tg} {k : Nat} (h1 : 0 < l.length) (h2 : l.length ≤ 8) (h : AllOk l k) (hk : l.length ≤ k) (hd : dup l = true) : sortErr l = 5 ∧ sortT l = [] := by
  have hf := fErr_zero.2 (h.all hk)
  have e : sortErr l = 5 := by
    unfold sortErr; rw [if_neg (by omega), if_pos hf, if_pos hd]
  exact ⟨e, by unfold sortT; rw [e, if_neg (by decide)]⟩
theorem sortErr_ok {l : List Tg} {k : Nat} (h1 : 0 < l.length) (h2 : l.length ≤ 8) (h : AllOk l k) (hk : l.length ≤ k) (hd : dup l = false) : sortErr l = 0 ∧ sortT l = srt l := by
  have hf := fErr_zero.2 (h.all hk)
  have e : sortErr l = 0 := by
    unfold sortErr; rw [if_neg (by omega), if_pos hf, if_neg (by rw [hd]; decide)]
  exact ⟨e, by unfold sortT; rw [if_pos e]⟩
theorem sortT_len (l : List Tg) : (sortT l).length ≤ 8 := by
  unfold sortT
  split
  · rename_i h; rw [srt_length]; exact (sortErr_zero.1 h).1.2
  · simp

/-- What Sort gives back. -/
def SortOut (l : List Tg) (w : World) (e : Ending) (w' : World) : Prop :=
  ∃ A n c, e = .returned (.tuple #[.slice A n c, .int .i64 (sortErr l)]) ∧ n ≤ 8 ∧ RdT w' A n c (sortT l) ∧ Below w.heap.size w w'
theorem SortOut.err {l : List Tg} {w w' : World} {z : Int} (h : sortErr l = z ∧ sortT l = []) (hb : Below w.heap.size w w') :
    SortOut l w (.returned (.tuple #[.slice none 0 0, .int .i64 z])) w' :=
  ⟨none, 0, 0, by rw [h.1], by omega, by rw [h.2]; exact RdT.none_ w', hb⟩
end Go.Proofs.Ytnmhgbdmjgejfaa
