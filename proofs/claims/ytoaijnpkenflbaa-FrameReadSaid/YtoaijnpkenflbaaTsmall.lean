/- Package tags and its twin: bytes of names, valid tags, and the string after a length. Conditions: none beyond those typed. -/
import Derived.Test.YtoaijnpkenflbaaBase
import Derived.Test.YtoaijnpkenflbaaTmath
import Derived.Test.YtoaijnpkenflbaaShelf
import Derived.WalkKit
import Derived.ProofKit
import Derived.OpenShut
import Derived.IntWalk
import Derived.Lib.Hide
import Derived.Below
import Derived.Deep.Draws
import Derived.Deep.QuietTactic
import Derived.BigQuiet
namespace Go.Proofs.Ytoaijnpkenflbaa
open Go.ChangeShapes Go.WideShapes Go.ChangeAt Go.RowKit
set_option linter.unusedVariables false
set_option maxRecDepth 100000
set_option linter.unusedSimpArgs false

theorem nbI_iff (z : Int) : nbI z = true ↔ ((97 ≤ z ∧ z ≤ 122) ∨ (48 ≤ z ∧ z ≤ 57) ∨ z = 95 ∨ z = 46 ∨ z = 45) := by unfold nbI; simp

theorem nameByte_any (z : Int) (w : World) (h0 : 0 ≤ z) (h1 : z ≤ 255) :
    Calls Try.prog 76 #[.int .u8 z] w fun e w' => e = .returned (.bool (nbI z)) ∧ w = w' := by
  go_enter Try.func76, Try.ntmps76
  go_wp2
  all_goals
    go_ret
    refine ⟨ret_bool ?_, rfl⟩
    try simp only [beq_iff_eq, beq_eq_false_iff_ne, ne_eq] at *
    rw [Bool.eq_iff_iff, nbI_iff]
    simp
    try omega
theorem rnameByte_any (z : Int) (w : World) (h0 : 0 ≤ z) (h1 : z ≤ 255) :
    Calls Try.prog 75 #[.int .u8 z] w fun e w' => e = .returned (.bool (nbI z)) ∧ w = w' := by
  go_enter Try.func75, Try.ntmps75
  go_wp2
  all_goals
    go_ret
    refine ⟨ret_bool ?_, rfl⟩
    try simp only [beq_iff_eq, beq_eq_false_iff_ne, ne_eq] at *
    rw [Bool.eq_iff_iff, nbI_iff]
    simp
    try omega

/-! ### names -/

def NameTo (s : ByteArray) (k : Nat) : Prop := (s.data.toList.take k).all (fun c => nbI c.toNat) = true
theorem NameTo.zero (s : ByteArray) : NameTo s 0 := by simp [NameTo]
theorem NameTo.succ {s : ByteArray} {k : Nat} (h : NameTo s k) (hk : k < s.size) (hb : nbI (s[k].toNat : Int) = true) : NameTo s (k + 1) := by
  unfold NameTo at *
  rw [List.take_succ_eq_append_getElem (by simpa using hk), List.all_append, h]
  simp
  exact hb
theorem nameOk_no {s : ByteArray} {k : Nat} (hk : k < s.size) (hb : nbI (s[k].toNat : Int) = false) : nameOk s.data.toList = false := by
  unfold nameOk
  have : s.data.toList.all (fun c => nbI c.toNat) = false := by
    rw [List.all_eq_false]
    exact ⟨s[k], Array.getElem_mem_toList _, by rw [hb]; simp⟩
  rw [this]; rfl
theorem NameTo.all {s : ByteArray} (h : NameTo s s.size) : nameOk s.data.toList = !s.toList.isEmpty := by
  unfold NameTo at h
  rw [List.take_of_length_le (by simp)] at h
  unfold nameOk
  rw [h, Lib.toList_data, Bool.true_and]

set_option maxHeartbeats 400000 in
theorem isName_any (s : ByteArray) (w : World) (hs : s.size ≤ 140737488355328) :
    Calls Try.prog 70 #[.string s] w fun e w' => e = .returned (.bool (nameOk s.data.toList)) ∧ w = w' := by
  go_enter Try.func70, Try.ntmps70
  go_wp2
  go_loop [6] (fun i => ∃ k : Nat, k ≤ s.size ∧ NameTo s k ∧ i = .int .i64 k) (fun i => s.size - (intOf i).toNat)
  case atStart => exact ⟨0, Nat.zero_le _, NameTo.zero s, rfl⟩
  case round =>
    obtain ⟨k, hk, hN, rfl⟩ := hrel
    by_cases hlt : k < s.size
    · have hc : s[k].toNat < 256 := s[k].toNat_lt
      cases hb : nbI (s[k].toNat : Int)
      · go_wp2_with (go_at_call 76; refine (nameByte_any _ _ (by omega) (by omega)).mono ?_; rintro e w' ⟨rfl, rfl⟩)
        go_ret
        exact ⟨ret_bool (nameOk_no hlt hb).symm, rfl⟩
      · go_wp2_with (go_at_call 76; refine (nameByte_any _ _ (by omega) (by omega)).mono ?_; rintro e w' ⟨rfl, rfl⟩)
        go_round
        case rel => exact ⟨k + 1, by omega, hN.succ hlt hb, by go_num⟩
        case measure => simp [intOf]; omega
    · obtain rfl : k = s.size := by omega
      go_wp2
      go_ret
      exact ⟨ret_bool (hN.all.symm), rfl⟩

theorem nameOk_end {s : ByteArray} {b : Bool} (h : NameTo s s.size) (h0 : s.toList.isEmpty = b) : nameOk s.data.toList = !b := by rw [h.all, h0]

theorem vErr_form {n v : ByteArray} (h : nameOk n.data.toList = false) : vErr (n, v) = 3 := by unfold vErr nm; simp only [h]; rfl
theorem vErr_long {n v : ByteArray} (h : nameOk n.data.toList = true) (hs : 32 < n.size ∨ 64 < v.size) : vErr (n, v) = 4 := by
  unfold vErr nm; simp only [h]; rw [if_pos trivial, if_pos hs]
theorem vErr_ok {n v : ByteArray} (h : nameOk n.data.toList = true) (h1 : n.size ≤ 32) (h2 : v.size ≤ 64) : vErr (n, v) = 0 := by
  unfold vErr nm; simp only [h]; rw [if_pos trivial, if_neg (by omega)]

set_option maxHeartbeats 400000 in
theorem valid_any (n v : ByteArray) (w : World) (hn : n.size ≤ 140737488355328) (hv : v.size ≤ 140737488355328) :
    Calls Try.prog 57 #[.agg #[.string n, .string v]] w fun e w' => e = .returned (.int .i64 (vErr (n, v))) ∧ Below w.heap.size w w' := by
  cases hb : nameOk n.data.toList
  · have HE := Lib.hid (vErr_form (v := v) hb)
    go_enter Try.func57, Try.ntmps57
    go_wp2_with (go_at_call 70; refine (isName_any _ _ hn).mono ?_; rintro e w' ⟨rfl, rfl⟩)
    go_ret
    exact ⟨ret_i64 HE.out.symm, (Below.refl _ _).alloc (Nat.le_refl _) _⟩
  · by_cases h1 : n.size ≤ 32
    · by_cases h2 : v.size ≤ 64
      · have HE := Lib.hid (vErr_ok hb h1 h2)
        go_enter Try.func57, Try.ntmps57
        go_wp2_with (go_at_call 70; refine (isName_any _ _ hn).mono ?_; rintro e w' ⟨rfl, rfl⟩)
        go_ret
        exact ⟨ret_i64 HE.out.symm, (Below.refl _ _).alloc (Nat.le_refl _) _⟩
      · have HE := Lib.hid (vErr_long (v := v) hb (.inr (by omega)))
        go_enter Try.func57, Try.ntmps57
        go_wp2_with (go_at_call 70; refine (isName_any _ _ hn).mono ?_; rintro e w' ⟨rfl, rfl⟩)
        go_ret
        exact ⟨ret_i64 HE.out.symm, (Below.refl _ _).alloc (Nat.le_refl _) _⟩
    · have HE := Lib.hid (vErr_long (v := v) hb (.inl (by omega)))
      go_enter Try.func57, Try.ntmps57
      go_wp2_with (go_at_call 70; refine (isName_any _ _ hn).mono ?_; rintro e w' ⟨rfl, rfl⟩)
      go_ret
      exact ⟨ret_i64 HE.out.symm, (Below.refl _ _).alloc (Nat.le_refl _) _⟩

set_option maxHeartbeats 400000 in
theorem rtag_any (n v : ByteArray) (w : World) (hn : n.size ≤ 140737488355328) (hv : v.size ≤ 140737488355328) :
    Calls Try.prog 69 #[.agg #[.string n, .string v]] w fun e w' => e = .returned (.int .i64 (vErr (n, v))) ∧ Below w.heap.size w w' := by
  go_enter Try.func69, Try.ntmps69
  go_wp2
  go_loop [3] (fun i => ∃ k : Nat, k ≤ n.size ∧ NameTo n k ∧ i = .int .i64 k) (fun i => n.size - (intOf i).toNat)
  case atStart => exact ⟨0, Nat.zero_le _, NameTo.zero n, rfl⟩
  case round =>
    obtain ⟨k, hk, hN, rfl⟩ := hrel
    by_cases hlt : k < n.size
    · have hc : n[k].toNat < 256 := n[k].toNat_lt
      cases hb : nbI (n[k].toNat : Int)
      · have HE := Lib.hid (vErr_form (v := v) (nameOk_no hlt hb))
        go_wp2_with (go_at_call 75; refine (rnameByte_any _ _ (by omega) (by omega)).mono ?_; rintro e w' ⟨rfl, rfl⟩)
        go_ret
        exact ⟨ret_i64 HE.out.symm, (Below.refl _ _).alloc (Nat.le_refl _) _⟩
      · go_wp2_with (go_at_call 75; refine (rnameByte_any _ _ (by omega) (by omega)).mono ?_; rintro e w' ⟨rfl, rfl⟩)
        go_round
        case rel => exact ⟨k + 1, by omega, hN.succ hlt hb, by go_num⟩
        case measure => simp [intOf]; omega
    · obtain rfl : k = n.size := by omega
      cases h0 : n.toList.isEmpty
      rotate_left
      · have HE := Lib.hid (vErr_form (v := v) (nameOk_end (b := true) hN h0))
        go_wp2
        go_ret
        exact ⟨ret_i64 HE.out.symm, (Below.refl _ _).alloc (Nat.le_refl _) _⟩
      · have hok : nameOk n.data.toList = true := nameOk_end (b := false) hN h0
        by_cases h1 : n.size ≤ 32
        · by_cases h2 : v.size ≤ 64
          · have HE := Lib.hid (vErr_ok hok h1 h2)
            go_wp2
            go_ret
            exact ⟨ret_i64 HE.out.symm, (Below.refl _ _).alloc (Nat.le_refl _) _⟩
          · have HE := Lib.hid (vErr_long (v := v) hok (.inr (by omega)))
            go_wp2
            go_ret
            exact ⟨ret_i64 HE.out.symm, (Below.refl _ _).alloc (Nat.le_refl _) _⟩
        · have HE := Lib.hid (vErr_long (v := v) hok (.inl (by omega)))
          go_wp2
          go_ret
          exact ⟨ret_i64 HE.out.symm, (Below.refl _ _).alloc (Nat.le_refl _) _⟩
end Go.Proofs.Ytoaijnpkenflbaa
