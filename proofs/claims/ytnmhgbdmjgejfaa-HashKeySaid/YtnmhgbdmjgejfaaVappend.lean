/- Contracts of varint.Append, varint.Size and of their specified results: each returns what the plain function gives in memory of its own. Conditions: the slice reads as bytes, the number fits 64 bits, the whole is at most 2^47 bytes. -/
import Derived.Test.YtnmhgbdmjgejfaaBytes
import Derived.Test.YtnmhgbdmjgejfaaVmath
import Derived.Lib.VarintBits
namespace Go.Proofs.Ytnmhgbdmjgejfaa
open Go.ChangeShapes Go.WideShapes Go.ChangeAt Go.RowKit
set_option linter.unusedVariables false
set_option maxRecDepth 100000

/-- A slice of bytes comes back that reads l; what was there is as it was. -/
def OutB (w : World) (l : List Int) (e : Ending) (w' : World) : Prop :=
  ∃ A n c, e = .returned (.slice A n c) ∧ Rd w' A n c l ∧ Below w.heap.size w w'

theorem ret_int {k : IntKind} {a b : Int} (h : a = b) : Ending.returned (.int k a) = .returned (.int k b) := by rw [h]

/-- What a loop of Size keeps. -/
def SizeK (n m s : Nat) : Prop := s + (enc m).length = (enc n).length + 1 ∧ s ≤ 10
theorem SizeK.next {n m s : Nat} (h : SizeK n m s) (hm : ¬ m < 128) (hn : n ≤ 18446744073709551615) : SizeK n (m / 128) (s + 1) := by
  have h1 := enc_ten hn
  have h2 := enc_pos (m / 128)
  have h3 := h.1
  rw [enc_ge hm, List.length_cons] at h3
  exact ⟨by omega, by omega⟩

theorem take_full (l : List Int) : l = l ++ [] := (List.append_nil l).symm
theorem OutB.of_own {w w' : World} {v : Value} {l : List Int} (h : Own w' w.heap.size v l) (hb : Below w.heap.size w w') : OutB w l (.returned v) w' := by
  obtain ⟨A, n, c, rfl, hr⟩ := h.form
  exact ⟨A, n, c, rfl, hr, hb⟩
/-- A row of bytes of the call's own comes back; what was there is as it was. -/
def OutO (w : World) (l : List Int) (e : Ending) (w' : World) : Prop :=
  ∃ v, e = .returned v ∧ Own w' w.heap.size v l ∧ Below w.heap.size w w'
theorem OutO.out {w w' : World} {l : List Int} {e : Ending} (h : OutO w l e w') : OutB w l e w' := by
  obtain ⟨v, rfl, h1, h2⟩ := h
  exact OutB.of_own h1 h2
theorem low7 (m : Nat) (hm : m ≤ 18446744073709551615) : bits .and .u64 (m : Int) 127 = (m : Int) % 128 :=
  bits_mask .u64 64 (by decide) wraps_u64 7 (by decide) _ (by omega) (by omega)

theorem group_byte (m : Nat) (hm : m ≤ 18446744073709551615) : bits .or .u8 (bits .and .u64 (m : Int) 127 % 256) 128 = ((m % 128 : Nat) : Int) + 128 := by
  rw [low7 m hm, u8_or128_right _ (by omega) (by omega)]
  omega
/-- What a loop of Append keeps. -/
def AppK (l : List Int) (n m : Nat) (r : List Int) : Prop := r ++ enc m = l ++ enc n
theorem AppK.len {l : List Int} {n m : Nat} {r : List Int} (h : AppK l n m r) (hn : n ≤ 18446744073709551615) : r.length + 1 ≤ l.length + 10 := by
  have h1 := congrArg List.length h
  have h2 := enc_pos m
  have h3 := enc_ten hn
  rw [List.length_append, List.length_append] at h1
  omega
theorem AppK.last {l : List Int} {n m : Nat} {r : List Int} (h : AppK l n m r) (hm : m < 128) : r ++ [(m : Int)] = l ++ enc n := by
  unfold AppK at h; rw [enc_lt hm] at h; exact h
theorem AppK.next {l : List Int} {n m : Nat} {r : List Int} (h : AppK l n m r) (hm : ¬ m < 128) : AppK l n (m / 128) (r ++ [((m % 128 : Nat) : Int) + 128]) := by
  unfold AppK at h ⊢; rw [enc_ge hm] at h; rw [List.append_assoc]; exact h

end Go.Proofs.Ytnmhgbdmjgejfaa
