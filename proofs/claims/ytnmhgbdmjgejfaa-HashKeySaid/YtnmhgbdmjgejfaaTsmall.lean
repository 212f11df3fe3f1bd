/- Package tags and its twin: bytes of names, valid tags, and the string after a length. Conditions: none beyond those typed. -/
import Derived.Test.YtnmhgbdmjgejfaaBase
import Derived.Test.YtnmhgbdmjgejfaaTmath
import Derived.Test.YtnmhgbdmjgejfaaShelf
import Derived.WalkKit
import Derived.ProofKit
import Derived.OpenShut
import Derived.IntWalk
import Derived.Lib.Hide
import Derived.Below
import Derived.Deep.Draws
import Derived.Deep.QuietTactic
import Derived.BigQuiet
namespace Go.Proofs.Ytnmhgbdmjgejfaa
open Go.ChangeShapes Go.WideShapes Go.ChangeAt Go.RowKit
set_option linter.unusedVariables false
set_option maxRecDepth 100000
set_option linter.unusedSimpArgs false

theorem nbI_iff (z : Int) : nbI z = true ↔ ((97 ≤ z ∧ z ≤ 122) ∨ (48 ≤ z ∧ z ≤ 57) ∨ z = 95 ∨ z = 46 ∨ z = 45) := by unfold nbI; simp

/-! ### names -/

def NameTo (s : ByteArray) (k : Nat) : Prop := (s.data.toList.take k).all (fun c => nbI c.toNat) = true
theorem NameTo.zero (s : ByteArray) : NameTo s 0 := by simp [NameTo]
theorem NameTo.succ {s : ByteArray} {k : Nat} (h : NameTo s k) (hk : k < s.size) (hb : nbI (s[k].toNat : Int) = true) : NameTo s (k + 1) := by
  unfold NameTo at *
  rw [List.take_succ_eq_append_getElem (by simpa using hk), List.all_append, h]
  simp
  exact hb
theorem nameOk_no {s : ByteArray} {k : Nat} (hk : k < s.size) (hb : nbI (s[k].toNat : Int) = false) : nameOk s.data.toList = false := by
  unfold nameOk
  have : s.data.toList.all (fun c => nbI c.toNat) = false := by
    rw [List.all_eq_false]
    exact ⟨s[k], Array.getElem_mem_toList _, by rw [hb]; simp⟩
  rw [this]; rfl
theorem NameTo.all {s : ByteArray} (h : NameTo s s.size) : nameOk s.data.toList = !s.toList.isEmpty := by
  unfold NameTo at h
  rw [List.take_of_length_le (by simp)] at h
  unfold nameOk
  rw [h, Lib.toList_data, Bool.true_and]

theorem nameOk_end {s : ByteArray} {b : Bool} (h : NameTo s s.size) (h0 : s.toList.isEmpty = b) : nameOk s.data.toList = !b := by rw [h.all, h0]

theorem vErr_form {n v : ByteArray} (h : nameOk n.data.toList = false) : vErr (n, v) = 3 := by unfold vErr nm; simp only [h]; rfl
theorem vErr_long {n v : ByteArray} (h : nameOk n.data.toList = true) (hs : 32 < n.size ∨ 64 < v.size) : vErr (n, v) = 4 := by
  unfold vErr nm; simp only [h]; rw [if_pos trivial, if_pos hs]
theorem vErr_ok {n v : ByteArray} (h : nameOk n.data.toList = true) (h1 : n.size ≤ 32) (h2 : v.size ≤ 64) : vErr (n, v) = 0 := by
  unfold vErr nm; simp only [h]; rw [if_pos trivial, if_neg (by omega)]

end Go.Proofs.Ytnmhgbdmjgejfaa
