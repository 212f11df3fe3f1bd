/- Contracts of the functions of package sat and of the specified results of layer 1: each returns what the plain functions below give, and leaves the world alone. Conditions: the numbers fit 64 bits. -/
import Derived.Test.YtbhdogmncmjhoaaRows
import Derived.WalkKit
import Derived.ProofKit
import Derived.OpenShut
import Derived.IntWalk
import Derived.Lib.Hide
namespace Go.Proofs.Ytbhdogmncmjhoaa
open Go.ChangeShapes Go.WideShapes Go.ChangeAt Go.RowKit
set_option linter.unusedVariables false

def addV (a b : Int) : Int := if a ≤ 18446744073709551615 - b then a + b else 18446744073709551615
def addB (a b : Int) : Bool := decide (a ≤ 18446744073709551615 - b)
def subV (a b : Int) : Int := if a < b then 0 else a - b
def subB (a b : Int) : Bool := decide (b ≤ a)
def mulV (a b : Int) : Int := if a * b ≤ 18446744073709551615 then a * b else 18446744073709551615
def mulB (a b : Int) : Bool := decide (a * b ≤ 18446744073709551615)
def fitsB (t w : Int) : Bool := decide (t + w ≤ 9223372036854775808)
def shareV (t p : Int) : Int := if p < 1 then t else t / p

theorem addV_yes {a b : Int} (h : a ≤ 18446744073709551615 - b) : addV a b = a + b := if_pos h
theorem addV_no {a b : Int} (h : ¬ a ≤ 18446744073709551615 - b) : addV a b = 18446744073709551615 := if_neg h
theorem addB_yes {a b : Int} (h : a ≤ 18446744073709551615 - b) : addB a b = true := decide_eq_true h
theorem addB_no {a b : Int} (h : ¬ a ≤ 18446744073709551615 - b) : addB a b = false := decide_eq_false h
theorem subV_lt {a b : Int} (h : a < b) : subV a b = 0 := if_pos h
theorem subV_ge {a b : Int} (h : ¬ a < b) : subV a b = a - b := if_neg h
theorem subB_lt {a b : Int} (h : a < b) : subB a b = false := decide_eq_false (by omega)
theorem subB_ge {a b : Int} (h : ¬ a < b) : subB a b = true := decide_eq_true (by omega)
theorem mulV_yes {a b : Int} (h : a * b ≤ 18446744073709551615) : mulV a b = a * b := if_pos h
theorem mulV_no {a b : Int} (h : ¬ a * b ≤ 18446744073709551615) : mulV a b = 18446744073709551615 := if_neg h
theorem mulB_yes {a b : Int} (h : a * b ≤ 18446744073709551615) : mulB a b = true := decide_eq_true h
theorem mulB_no {a b : Int} (h : ¬ a * b ≤ 18446744073709551615) : mulB a b = false := decide_eq_false h
theorem fits_no {t w : Int} (h : ¬ t + w ≤ 9223372036854775808) : fitsB t w = false := decide_eq_false h
theorem fits_yes {t w : Int} (h : t + w ≤ 9223372036854775808) : fitsB t w = true := decide_eq_true h
theorem shareV_lt {t p : Int} (h : p < 1) : shareV t p = t := if_pos h
theorem shareV_ge {t p : Int} (h : ¬ p < 1) : shareV t p = t / p := if_neg h

theorem addV_le (a b : Int) (ha : 0 ≤ a ∧ a ≤ 18446744073709551615) (hb : 0 ≤ b ∧ b ≤ 18446744073709551615) : 0 ≤ addV a b ∧ addV a b ≤ 18446744073709551615 := by unfold addV; split <;> omega
theorem subV_le (a b : Int) (ha : 0 ≤ a ∧ a ≤ 18446744073709551615) (hb : 0 ≤ b ∧ b ≤ 18446744073709551615) : 0 ≤ subV a b ∧ subV a b ≤ 18446744073709551615 := by unfold subV; split <;> omega

theorem ret2 {a a' : Int} {b b' : Bool} (h : a = a') (g : b = b') :
    Ending.returned (.tuple #[.int .u64 a, .bool b]) = .returned (.tuple #[.int .u64 a', .bool b']) := by rw [h, g]
theorem ret1 {a a' : Int} (h : a = a') : Ending.returned (.int .u64 a) = .returned (.int .u64 a') := by rw [h]
theorem retb {b b' : Bool} (g : b = b') : Ending.returned (.bool b) = .returned (.bool b') := by rw [g]

set_option maxHeartbeats 400000 in
theorem add_any (a b : Int) (w : World) (ha : 0 ≤ a ∧ a ≤ 18446744073709551615) (hb : 0 ≤ b ∧ b ≤ 18446744073709551615) :
    Calls Try.prog 7 #[.int .u64 a, .int .u64 b] w fun e w' => e = .returned (.tuple #[.int .u64 (addV a b), .bool (addB a b)]) ∧ w = w' := by
  obtain ⟨h1, h2⟩ := ha
  obtain ⟨h3, h4⟩ := hb
  by_cases h : a ≤ 18446744073709551615 - b
  · go_enter Try.func7, Try.ntmps7
    go_wp2
    go_ret2
    exact ⟨ret2 (addV_yes h).symm (addB_yes h).symm, rfl⟩
  · go_enter Try.func7, Try.ntmps7
    go_wp2
    go_ret2
    exact ⟨ret2 (addV_no (by omega)).symm (addB_no (by omega)).symm, rfl⟩

set_option maxHeartbeats 400000 in
theorem radd_any (a b : Int) (w : World) (ha : 0 ≤ a ∧ a ≤ 18446744073709551615) (hb : 0 ≤ b ∧ b ≤ 18446744073709551615) :
    Calls Try.prog 8 #[.int .u64 a, .int .u64 b] w fun e w' => e = .returned (.tuple #[.int .u64 (addV a b), .bool (addB a b)]) ∧ w = w' := by
  obtain ⟨h1, h2⟩ := ha
  obtain ⟨h3, h4⟩ := hb
  by_cases h : a ≤ 18446744073709551615 - b
  · go_enter Try.func8, Try.ntmps8
    go_wp2
    go_ret2
    exact ⟨ret2 (addV_yes h).symm (addB_yes h).symm, rfl⟩
  · go_enter Try.func8, Try.ntmps8
    go_wp2
    go_ret2
    exact ⟨ret2 (addV_no (by omega)).symm (addB_no (by omega)).symm, rfl⟩

set_option maxHeartbeats 400000 in
theorem sub_any (a b : Int) (w : World) (ha : 0 ≤ a ∧ a ≤ 18446744073709551615) (hb : 0 ≤ b ∧ b ≤ 18446744073709551615) :
    Calls Try.prog 9 #[.int .u64 a, .int .u64 b] w fun e w' => e = .returned (.tuple #[.int .u64 (subV a b), .bool (subB a b)]) ∧ w = w' := by
  obtain ⟨h1, h2⟩ := ha
  obtain ⟨h3, h4⟩ := hb
  by_cases h : a < b
  · go_enter Try.func9, Try.ntmps9
    go_wp2
    go_ret2
    exact ⟨ret2 (subV_lt h).symm (subB_lt h).symm, rfl⟩
  · go_enter Try.func9, Try.ntmps9
    go_wp2
    go_ret2
    exact ⟨ret2 (subV_ge (by omega)).symm (subB_ge (by omega)).symm, rfl⟩

set_option maxHeartbeats 400000 in
theorem rsub_any (a b : Int) (w : World) (ha : 0 ≤ a ∧ a ≤ 18446744073709551615) (hb : 0 ≤ b ∧ b ≤ 18446744073709551615) :
    Calls Try.prog 10 #[.int .u64 a, .int .u64 b] w fun e w' => e = .returned (.tuple #[.int .u64 (subV a b), .bool (subB a b)]) ∧ w = w' := by
  obtain ⟨h1, h2⟩ := ha
  obtain ⟨h3, h4⟩ := hb
  by_cases h : a < b
  · go_enter Try.func10, Try.ntmps10
    go_wp2
    go_ret2
    exact ⟨ret2 (subV_lt h).symm (subB_lt h).symm, rfl⟩
  · go_enter Try.func10, Try.ntmps10
    go_wp2
    go_ret2
    exact ⟨ret2 (subV_ge (by omega)).symm (subB_ge (by omega)).symm, rfl⟩

/- The product: 'a > Most / b' says the same as 'a * b > Most' where b is positive. -/
theorem mul_test {a b : Int} (hb : 0 < b) : 18446744073709551615 / b < a ↔ ¬ a * b ≤ 18446744073709551615 := by
  rw [Int.not_le, Int.ediv_lt_iff_lt_mul hb]

set_option maxHeartbeats 400000 in
theorem mul_any (a b : Int) (w : World) (ha : 0 ≤ a ∧ a ≤ 18446744073709551615) (hb : 0 ≤ b ∧ b ≤ 18446744073709551615) :
    Calls Try.prog 12 #[.int .u64 a, .int .u64 b] w fun e w' => e = .returned (.tuple #[.int .u64 (mulV a b), .bool (mulB a b)]) ∧ w = w' := by
  obtain ⟨h1, h2⟩ := ha
  obtain ⟨h3, h4⟩ := hb
  by_cases h0 : b = 0
  · subst h0
    go_enter Try.func12, Try.ntmps12
    go_wp2
    go_ret2
    exact ⟨ret2 (by rw [mulV_yes (by omega)]; omega) (mulB_yes (by omega)).symm, rfl⟩
  · have hp : 0 < b := by omega
    by_cases h : 18446744073709551615 / b < a
    · have hm := Lib.hid ((mul_test hp).1 h)
      go_enter Try.func12, Try.ntmps12
      go_wp2
      go_ret2
      exact ⟨ret2 (mulV_no (Int.not_le.2 hm.out)).symm (mulB_no (Int.not_le.2 hm.out)).symm, rfl⟩
    · have hm : a * b ≤ 18446744073709551615 := Decidable.not_not.1 fun x => h ((mul_test hp).2 x)
      have hn := Int.mul_nonneg h1 h3
      have hM := Lib.hid hm
      have hw := Lib.hid (IntWalk.u64_in (a * b) ⟨hn, hm⟩)
      clear hm hn
      go_enter Try.func12, Try.ntmps12
      go_wp2
      go_ret2
      exact ⟨ret2 (hw.out.trans (mulV_yes hM.out).symm) (mulB_yes hM.out).symm, rfl⟩

set_option maxHeartbeats 400000 in
theorem rmul_any (a b : Int) (w : World) (ha : 0 ≤ a ∧ a ≤ 18446744073709551615) (hb : 0 ≤ b ∧ b ≤ 18446744073709551615) :
    Calls Try.prog 13 #[.int .u64 a, .int .u64 b] w fun e w' => e = .returned (.tuple #[.int .u64 (mulV a b), .bool (mulB a b)]) ∧ w = w' := by
  obtain ⟨h1, h2⟩ := ha
  obtain ⟨h3, h4⟩ := hb
  by_cases h0 : a = 0
  · subst h0
    go_enter Try.func13, Try.ntmps13
    go_wp2
    go_ret2
    exact ⟨ret2 (by rw [mulV_yes (by omega)]; omega) (mulB_yes (by omega)).symm, rfl⟩
  · have hp : 0 < a := by omega
    by_cases h : 18446744073709551615 / a < b
    · have hm := Lib.hid ((mul_test hp).1 h)
      go_enter Try.func13, Try.ntmps13
      go_wp2
      go_ret2
      exact ⟨ret2 (mulV_no (by rw [Int.mul_comm]; exact Int.not_le.2 hm.out)).symm (mulB_no (by rw [Int.mul_comm]; exact Int.not_le.2 hm.out)).symm, rfl⟩
    · have hm : a * b ≤ 18446744073709551615 := by
        rw [Int.mul_comm]
        exact Decidable.not_not.1 fun x => h ((mul_test hp).2 x)
      have hn := Int.mul_nonneg h1 h3
      have hM := Lib.hid hm
      have hw := Lib.hid (IntWalk.u64_in (a * b) ⟨hn, hm⟩)
      clear hm hn
      go_enter Try.func13, Try.ntmps13
      go_wp2
      go_ret2
      exact ⟨ret2 (hw.out.trans (mulV_yes hM.out).symm) (mulB_yes hM.out).symm, rfl⟩

set_option maxHeartbeats 400000 in
theorem fits_any (a b : Int) (w : World) (ha : 0 ≤ a ∧ a ≤ 18446744073709551615) (hb : 0 ≤ b ∧ b ≤ 18446744073709551615) :
    Calls Try.prog 15 #[.int .u64 a, .int .u64 b] w fun e w' => e = .returned (.bool (fitsB a b)) ∧ w = w' := by
  obtain ⟨h1, h2⟩ := ha
  obtain ⟨h3, h4⟩ := hb
  by_cases h : 9223372036854775808 < a
  · go_enter Try.func15, Try.ntmps15
    go_wp2
    go_ret
    exact ⟨retb (fits_no (by omega)).symm, rfl⟩
  · have h' : a ≤ 9223372036854775808 := by omega
    go_enter Try.func15, Try.ntmps15
    go_wp2
    go_ret
    exact ⟨retb (by unfold fitsB; exact decide_eq_decide.2 (by omega)), rfl⟩

set_option maxHeartbeats 400000 in
theorem rfits_any (a b : Int) (w : World) (ha : 0 ≤ a ∧ a ≤ 18446744073709551615) (hb : 0 ≤ b ∧ b ≤ 18446744073709551615) :
    Calls Try.prog 16 #[.int .u64 a, .int .u64 b] w fun e w' => e = .returned (.bool (fitsB a b)) ∧ w = w' := by
  obtain ⟨h1, h2⟩ := ha
  obtain ⟨h3, h4⟩ := hb
  by_cases h : 9223372036854775808 < a
  · go_enter Try.func16, Try.ntmps16
    go_wp2
    go_ret
    exact ⟨retb (fits_no (by omega)).symm, rfl⟩
  · have h' : a ≤ 9223372036854775808 := by omega
    go_enter Try.func16, Try.ntmps16
    go_wp2
    go_ret
    exact ⟨retb (by unfold fitsB; exact decide_eq_decide.2 (by omega)), rfl⟩

set_option maxHeartbeats 400000 in
theorem share_any (a b : Int) (w : World) (ha : 0 ≤ a ∧ a ≤ 18446744073709551615) (hb : -9223372036854775808 ≤ b ∧ b ≤ 9223372036854775807) :
    Calls Try.prog 14 #[.int .u64 a, .int .i64 b] w fun e w' => e = .returned (.int .u64 (shareV a b)) ∧ w = w' := by
  obtain ⟨h1, h2⟩ := ha
  obtain ⟨h3, h4⟩ := hb
  by_cases h : b < 1
  · go_enter Try.func14, Try.ntmps14
    go_wp2
    go_ret
    exact ⟨ret1 (shareV_lt h).symm, rfl⟩
  · have hp : 1 ≤ b := by omega
    have hw := Lib.hid (IntWalk.u64_in b ⟨by omega, by omega⟩)
    go_enter Try.func14, Try.ntmps14
    go_wp2
    go_ret
    exact ⟨ret1 (shareV_ge (by omega)).symm, rfl⟩

set_option maxHeartbeats 400000 in
theorem rshare_any (a b : Int) (w : World) (ha : 0 ≤ a ∧ a ≤ 18446744073709551615) (hb : -9223372036854775808 ≤ b ∧ b ≤ 9223372036854775807) :
    Calls Try.prog 17 #[.int .u64 a, .int .i64 b] w fun e w' => e = .returned (.int .u64 (shareV a b)) ∧ w = w' := by
  obtain ⟨h1, h2⟩ := ha
  obtain ⟨h3, h4⟩ := hb
  by_cases h : b < 1
  · go_enter Try.func17, Try.ntmps17
    go_wp2
    go_ret
    exact ⟨ret1 (shareV_lt h).symm, rfl⟩
  · have hp : 1 ≤ b := by omega
    go_enter Try.func17, Try.ntmps17
    go_wp2
    go_ret
    exact ⟨ret1 (shareV_ge (by omega)).symm, rfl⟩

set_option maxHeartbeats 400000 in
theorem awake_any (w : World) :
    Calls Try.prog 11 #[] w fun e w' => e = .returned (.bool true) ∧ w = w' := by
  go_enter Try.func11, Try.ntmps11
  go_wp2
  go_ret
  exact ⟨rfl, rfl⟩
end Go.Proofs.Ytbhdogmncmjhoaa
