/- Package tags and its twin: the string that a key begins with, after the byte with its length. Conditions: none beyond those typed. -/
import Derived.Test.YtnmhgbdmjgejfaaTsmall
import Derived.Laws.DeepStrings4
import Derived.Laws.Strings3
namespace Go.Proofs.Ytnmhgbdmjgejfaa
open Go.ChangeShapes Go.WideShapes Go.ChangeAt Go.RowKit
set_option linter.unusedVariables false
set_option maxRecDepth 100000
set_option linter.unusedSimpArgs false

theorem ba_empty {s : ByteArray} (h : s.size = 0) : s.toList.isEmpty = true ∧ s = ⟨#[]⟩ := by
  obtain ⟨⟨l⟩⟩ := s
  have hl : l = [] := List.eq_nil_of_length_eq_zero h
  subst hl
  exact ⟨by rw [Lib.toList_data]; rfl, rfl⟩
theorem ba_some {s : ByteArray} (h : 0 < s.size) : s.toList.isEmpty = false := by
  rw [Lib.toList_data]
  cases hl : s.data.toList with
  | nil => rw [ba_size, hl] at h; cases h
  | cons a r => rfl
theorem fld_empty {s : ByteArray} (h : s.size = 0) : fld s.data.toList = none := by rw [(ba_empty h).2]; rfl
theorem fld_short {s : ByteArray} (h : 0 < s.size) (hs : s.size < 1 + s[0].toNat) : fld s.data.toList = none := by
  obtain ⟨⟨l⟩⟩ := s
  cases l with
  | nil => cases h
  | cons c r =>
    show fld (c :: r) = none
    have hs' : r.length + 1 < 1 + c.toNat := hs
    simp only [fld]
    rw [if_pos (by omega)]
theorem fld_full {s : ByteArray} (h : 0 < s.size) (hs : 1 + s[0].toNat ≤ s.size) :
    fld s.data.toList = some (s.extract 1 (1 + s[0].toNat), (s.extract (1 + s[0].toNat) s.size).data.toList) := by
  obtain ⟨⟨l⟩⟩ := s
  cases l with
  | nil => cases h
  | cons c r =>
    have hs' : 1 + c.toNat ≤ r.length + 1 := hs
    show fld (c :: r) = some ((ByteArray.mk ⟨c :: r⟩).extract 1 (1 + c.toNat), ((ByteArray.mk ⟨c :: r⟩).extract (1 + c.toNat) (r.length + 1)).data.toList)
    simp only [fld]
    rw [if_neg (by omega)]
    congr 1
    refine Prod.ext ?_ ?_
    · apply ByteArray.ext
      rw [ByteArray.data_extract]
      simp [Nat.add_comm]
    · show _ = ((ByteArray.mk ⟨c :: r⟩).extract (1 + c.toNat) (r.length + 1)).data.toList
      rw [ByteArray.data_extract]
      simp [Nat.add_comm 1]
      rw [List.take_of_length_le (by simp)]
theorem fld_inv {s a : ByteArray} {r : List UInt8} (hf : fld s.data.toList = some (a, r)) :
    ∃ h : 0 < s.size, 1 + s[0].toNat ≤ s.size ∧ a = s.extract 1 (1 + s[0].toNat) ∧ (⟨r.toArray⟩ : ByteArray) = s.extract (1 + s[0].toNat) s.size := by
  rcases Nat.eq_zero_or_pos s.size with h | h
  · rw [fld_empty h] at hf; cases hf
  · refine ⟨h, ?_⟩
    by_cases hs : 1 + s[0].toNat ≤ s.size
    · rw [fld_full h hs] at hf
      injection hf with hf
      injection hf with h1 h2
      refine ⟨hs, h1.symm, ?_⟩
      subst h2
      rfl
    · rw [fld_short h (by omega)] at hf; cases hf


def FldYes (w : World) (a b : ByteArray) (e : Ending) (w' : World) : Prop := e = .returned (.tuple #[.string a, .string b, .bool true]) ∧ ∃ n, w' = w.drewN n
def FldNo (w : World) (e : Ending) (w' : World) : Prop := e = .returned (.tuple #[.string ⟨#[]⟩, .string ⟨#[]⟩, .bool false]) ∧ w = w'

end Go.Proofs.Ytnmhgbdmjgejfaa
