/- slices.SortFunc over tags by their names, for few tags. Conditions: none beyond those typed. -/
import Derived.Test.YtnmhgbdmjgejfaaTmem
import Derived.Deep.RegionHeld3
import Derived.Deep.WholeRow
namespace Go.Proofs.Ytnmhgbdmjgejfaa
open Go.ChangeShapes Go.WideShapes Go.ChangeAt Go.RowKit
set_option linter.unusedVariables false
set_option maxRecDepth 100000
set_option linter.unusedSimpArgs false

theorem bcell {W w1 : World} (hb : Below W.heap.size W w1) : (∀ b o, b < W.heap.size → w1.cell? ⟨b, o, none⟩ = W.cell? ⟨b, o, none⟩) ∧ (∀ b o, b < W.heap.size → w1.frozen? ⟨b, o, none⟩ = W.frozen? ⟨b, o, none⟩) :=
  ⟨fun b o h => hb.cell (p := ⟨b, o, none⟩) h, fun b o h => hb.frozen (p := ⟨b, o, none⟩) h⟩
def cellsT (l : List Tg) : List Value := l.flatMap fun t => [.string t.1, .string t.2]
theorem cellsT_length : ∀ l : List Tg, (cellsT l).length = l.length * 2
  | [] => rfl
  | t :: r => by
    have := cellsT_length r
    simp only [cellsT, List.flatMap_cons, List.length_append, List.length_cons, List.length_nil] at this ⊢
    omega
theorem cellsT_at : ∀ (l : List Tg) (j : Nat) (t : Tg), l[j]? = some t → (cellsT l)[j * 2]? = some (.string t.1) ∧ (cellsT l)[j * 2 + 1]? = some (.string t.2)
  | [], j, t, h => by simp at h
  | x :: r, 0, t, h => by simp at h; subst h; exact ⟨rfl, rfl⟩
  | x :: r, j + 1, t, h => by
    have ih := cellsT_at r j t (by simpa using h)
    have e : cellsT (x :: r) = .string x.1 :: .string x.2 :: cellsT r := rfl
    have a : (j + 1) * 2 = j * 2 + 1 + 1 := by omega
    rw [e, a]
    simpa using ih
theorem cellsT_set : ∀ (l : List Tg) (j : Nat) (t : Tg), j < l.length → ((cellsT l).set (j * 2) (.string t.1)).set (j * 2 + 1) (.string t.2) = cellsT (l.set j t)
  | [], j, t, h => by simp at h
  | x :: r, 0, t, h => rfl
  | x :: r, j + 1, t, h => by
    have ih := cellsT_set r j t (by simpa using h)
    have e : cellsT (x :: r) = .string x.1 :: .string x.2 :: cellsT r := rfl
    have a : (j + 1) * 2 = j * 2 + 1 + 1 := by omega
    rw [e, a]
    simp only [List.set_cons_succ, ih]
    rfl
section
variable {w w' : World} {g c : Nat} {l : List Tg}
end

/-- s with t put in at j, and what follows. -/
def mid (s : List Tg) (t : Tg) (j : Nat) (r : List Tg) : List Tg := s.take j ++ t :: (s.drop j ++ r)
def InsAt (t : Tg) (s : List Tg) (j : Nat) : Prop := j ≤ s.length ∧ ∀ x, s[j]? = some x → lt t x = true
theorem mid_len (s : List Tg) (t : Tg) (j : Nat) (r : List Tg) (hj : j ≤ s.length) : (mid s t j r).length = s.length + 1 + r.length := by
  simp only [mid, List.length_append, List.length_cons, List.length_take, List.length_drop]; omega
theorem mid_t (s : List Tg) (t : Tg) (j : Nat) (r : List Tg) (hj : j ≤ s.length) : (mid s t j r)[j]? = some t := by
  unfold mid
  rw [List.getElem?_append_right (by rw [List.length_take]; omega)]
  have : j - (s.take j).length = 0 := by rw [List.length_take]; omega
  rw [this]; rfl
theorem mid_prev (s : List Tg) (t : Tg) (j : Nat) (r : List Tg) (hj : j ≤ s.length) (h0 : 0 < j) : (mid s t j r)[j - 1]? = s[j - 1]? := by
  unfold mid
  rw [List.getElem?_append_left (by rw [List.length_take]; omega), List.getElem?_take, if_pos (by omega)]
theorem mid_swap (s : List Tg) (t x : Tg) (j : Nat) (r : List Tg) (h0 : 0 < j) (hx : s[j - 1]? = some x) :
    ((mid s t j r).set j x).set (j - 1) t = mid s t (j - 1) r := by
  have hlt : j - 1 < s.length := (List.getElem?_eq_some_iff.1 hx).1
  have hxe : s[j - 1] = x := (List.getElem?_eq_some_iff.1 hx).2
  have e1 : s.take j = s.take (j - 1) ++ [x] := by
    have : j = j - 1 + 1 := by omega
    rw [this, List.take_add_one]
    have e : j - 1 + 1 - 1 = j - 1 := by omega
    rw [e, hx]; rfl
  have e2 : s.drop (j - 1) = x :: s.drop j := by
    rw [List.drop_eq_getElem_cons hlt, hxe]
    have : j - 1 + 1 = j := by omega
    rw [this]
  have hl : (s.take (j - 1)).length = j - 1 := by rw [List.length_take]; omega
  unfold mid
  rw [e1, e2, List.append_assoc]
  rw [List.set_append_right _ _ (by omega), List.set_append_right _ _ (by omega), hl]
  have a1 : j - (j - 1) = 1 := by omega
  have a2 : j - 1 - (j - 1) = 0 := by omega
  rw [a1, a2]
  rfl
theorem mid_end {s : List Tg} {t : Tg} {j : Nat} (r : List Tg) (hs : Srtd s) (h : InsAt t s j) (hx : 0 < j → ∃ x, s[j - 1]? = some x ∧ lt t x = false) :
    mid s t j r = ins t s ++ r := by
  have : s.take j ++ t :: s.drop j = ins t s := by
    refine ins_at t s j (fun y hy => ?_) h.2
    obtain ⟨i, hi⟩ := List.mem_iff_getElem?.1 hy
    rw [List.getElem?_take] at hi
    split at hi
    · rename_i hij
      obtain ⟨x, hsx, hf⟩ := hx (by omega)
      rcases Nat.lt_or_ge i (j - 1) with hlt | hge
      · have h1 : lt x y = false := by
          have := List.pairwise_iff_getElem.1 hs i (j - 1) (List.getElem?_eq_some_iff.1 hi).1 (List.getElem?_eq_some_iff.1 hsx).1 hlt
          rwa [(List.getElem?_eq_some_iff.1 hi).2, (List.getElem?_eq_some_iff.1 hsx).2] at this
        cases hty : lt t y with
        | false => rfl
        | true =>
          have := lt_le hty h1
          rw [hf] at this; cases this
      · have : i = j - 1 := by omega
        subst this
        rw [hsx] at hi
        rw [← Option.some.inj hi]; exact hf
    · cases hi
  unfold mid
  rw [← this]
  simp
theorem srt_take_len {l : List Tg} {k : Nat} (h : k ≤ l.length) : (srt (l.take k)).length = k := by rw [srt_length, List.length_take]; omega
theorem mid_start {l : List Tg} {k : Nat} {t : Tg} (ht : l[k]? = some t) : srt (l.take k) ++ l.drop k = mid (srt (l.take k)) t k (l.drop (k + 1)) := by
  have hlt : k < l.length := (List.getElem?_eq_some_iff.1 ht).1
  have hl := srt_take_len (Nat.le_of_lt hlt)
  have e1 : (srt (l.take k)).take k = srt (l.take k) := List.take_of_length_le (by omega)
  have e2 : (srt (l.take k)).drop k = [] := List.drop_of_length_le (by omega)
  have e3 : l.drop k = t :: l.drop (k + 1) := by rw [List.drop_eq_getElem_cons hlt, (List.getElem?_eq_some_iff.1 ht).2]
  unfold mid
  rw [e1, e2, e3]
  rfl
theorem srt_one (l : List Tg) : srt (l.take 1) ++ l.drop 1 = l := by cases l <;> simp [srt, ins]
theorem srt_all {l : List Tg} {k : Nat} (h : l.length ≤ k) : srt (l.take k) ++ l.drop k = srt l := by
  rw [List.take_of_length_le h, List.drop_of_length_le h, List.append_nil]
theorem insAt_start {l : List Tg} {k : Nat} {t : Tg} (ht : l[k]? = some t) : InsAt t (srt (l.take k)) k := by
  have hlt : k < l.length := (List.getElem?_eq_some_iff.1 ht).1
  have hl := srt_take_len (Nat.le_of_lt hlt)
  exact ⟨by omega, fun x hx => by rw [List.getElem?_eq_none (by omega)] at hx; cases hx⟩
theorem mid_next {l : List Tg} {k j : Nat} {t : Tg} (ht : l[k]? = some t) (h : InsAt t (srt (l.take k)) j) (hx : 0 < j → ∃ x, (srt (l.take k))[j - 1]? = some x ∧ lt t x = false) :
    mid (srt (l.take k)) t j (l.drop (k + 1)) = srt (l.take (k + 1)) ++ l.drop (k + 1) := by
  rw [mid_end _ (srt_srtd _) h hx, List.take_add_one, ht]
  show _ = srt (l.take k ++ [t]) ++ _
  rw [srt_snoc]

theorem grow_set {w w' : World} {g : Nat} (h : w.grownBy w' (some g)) (i : Nat) (v : Value) : w.grownBy (w'.setCell ⟨g, i, none⟩ v) (some g) :=
  ⟨h.os, h.tape, h.output, by simpa [World.setCell] using h.size, fun k hk hne => (Below.heap_setCell _ _ _ _ (fun e => hne (by simp [e]))).trans (h.block k hk hne)⟩
theorem grow_below {w w' w1 : World} {row : Option Nat} (h : w.grownBy w' row) (hb : Below w'.heap.size w' w1) : w.grownBy w1 row :=
  ⟨hb.os.trans h.os, hb.tape.trans h.tape, hb.output.trans h.output, Nat.le_trans h.size hb.size, fun k hk hne => (hb.block k (Nat.lt_of_lt_of_le hk h.size)).trans (h.block k hk hne)⟩
theorem grow_drewN {w w' : World} {row : Option Nat} (h : w.grownBy w' row) (n : Nat) : w.grownBy (w'.drewN n) row := ⟨h.os, h.tape, h.output, h.size, h.block⟩

end Go.Proofs.Ytnmhgbdmjgejfaa
