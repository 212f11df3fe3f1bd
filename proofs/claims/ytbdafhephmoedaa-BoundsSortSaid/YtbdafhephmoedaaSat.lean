/- Contracts of the functions of package sat and of the specified results of layer 1: each returns what the plain functions below give, and leaves the world alone. Conditions: the numbers fit 64 bits. -/
import Derived.Test.YtbdafhephmoedaaRows
import Derived.WalkKit
import Derived.ProofKit
import Derived.OpenShut
import Derived.IntWalk
import Derived.Lib.Hide
namespace Go.Proofs.Ytbdafhephmoedaa
open Go.ChangeShapes Go.WideShapes Go.ChangeAt Go.RowKit
set_option linter.unusedVariables false

def addV (a b : Int) : Int := if a ≤ 18446744073709551615 - b then a + b else 18446744073709551615
def addB (a b : Int) : Bool := decide (a ≤ 18446744073709551615 - b)
def subV (a b : Int) : Int := if a < b then 0 else a - b
def subB (a b : Int) : Bool := decide (b ≤ a)
def mulV (a b : Int) : Int := if a * b ≤ 18446744073709551615 then a * b else 18446744073709551615
def mulB (a b : Int) : Bool := decide (a * b ≤ 18446744073709551615)
def fitsB (t w : Int) : Bool := decide (t + w ≤ 9223372036854775808)
def shareV (t p : Int) : Int := if p < 1 then t else t / p

theorem addV_yes {a b : Int} (h : a ≤ 18446744073709551615 - b) : addV a b = a + b := if_pos h
theorem addV_no {a b : Int} (h : ¬ a ≤ 18446744073709551615 - b) : addV a b = 18446744073709551615 := if_neg h
theorem addB_yes {a b : Int} (h : a ≤ 18446744073709551615 - b) : addB a b = true := decide_eq_true h
theorem addB_no {a b : Int} (h : ¬ a ≤ 18446744073709551615 - b) : addB a b = false := decide_eq_false h
theorem subV_lt {a b : Int} (h : a < b) : subV a b = 0 := if_pos h
theorem subV_ge {a b : Int} (h : ¬ a < b) : subV a b = a - b := if_neg h
theorem subB_lt {a b : Int} (h : a < b) : subB a b = false := decide_eq_false (by omega)
theorem subB_ge {a b : Int} (h : ¬ a < b) : subB a b = true := decide_eq_true (by omega)
theorem mulV_yes {a b : Int} (h : a * b ≤ 18446744073709551615) : mulV a b = a * b := if_pos h
theorem mulV_no {a b : Int} (h : ¬ a * b ≤ 18446744073709551615) : mulV a b = 18446744073709551615 := if_neg h
theorem mulB_yes {a b : Int} (h : a * b ≤ 18446744073709551615) : mulB a b = true := decide_eq_true h
theorem mulB_no {a b : Int} (h : ¬ a * b ≤ 18446744073709551615) : mulB a b = false := decide_eq_false h
theorem fits_no {t w : Int} (h : ¬ t + w ≤ 9223372036854775808) : fitsB t w = false := decide_eq_false h
theorem fits_yes {t w : Int} (h : t + w ≤ 9223372036854775808) : fitsB t w = true := decide_eq_true h
theorem shareV_lt {t p : Int} (h : p < 1) : shareV t p = t := if_pos h
theorem shareV_ge {t p : Int} (h : ¬ p < 1) : shareV t p = t / p := if_neg h

theorem addV_le (a b : Int) (ha : 0 ≤ a ∧ a ≤ 18446744073709551615) (hb : 0 ≤ b ∧ b ≤ 18446744073709551615) : 0 ≤ addV a b ∧ addV a b ≤ 18446744073709551615 := by unfold addV; split <;> omega
theorem subV_le (a b : Int) (ha : 0 ≤ a ∧ a ≤ 18446744073709551615) (hb : 0 ≤ b ∧ b ≤ 18446744073709551615) : 0 ≤ subV a b ∧ subV a b ≤ 18446744073709551615 := by unfold subV; split <;> omega

theorem ret2 {a a' : Int} {b b' : Bool} (h : a = a') (g : b = b') :
    Ending.returned (.tuple #[.int .u64 a, .bool b]) = .returned (.tuple #[.int .u64 a', .bool b']) := by rw [h, g]
theorem ret1 {a a' : Int} (h : a = a') : Ending.returned (.int .u64 a) = .returned (.int .u64 a') := by rw [h]
theorem retb {b b' : Bool} (g : b = b') : Ending.returned (.bool b) = .returned (.bool b') := by rw [g]

set_option maxHeartbeats 400000 in
theorem add_any (a b : Int) (w : World) (ha : 0 ≤ a ∧ a ≤ 18446744073709551615) (hb : 0 ≤ b ∧ b ≤ 18446744073709551615) :
    Calls Try.prog 30 #[.int .u64 a, .int .u64 b] w fun e w' => e = .returned (.tuple #[.int .u64 (addV a b), .bool (addB a b)]) ∧ w = w' := by
  obtain ⟨h1, h2⟩ := ha
  obtain ⟨h3, h4⟩ := hb
  by_cases h : a ≤ 18446744073709551615 - b
  · go_enter Try.func30, Try.ntmps30
    go_wp2
    go_ret2
    exact ⟨ret2 (addV_yes h).symm (addB_yes h).symm, rfl⟩
  · go_enter Try.func30, Try.ntmps30
    go_wp2
    go_ret2
    exact ⟨ret2 (addV_no (by omega)).symm (addB_no (by omega)).symm, rfl⟩

set_option maxHeartbeats 400000 in
theorem radd_any (a b : Int) (w : World) (ha : 0 ≤ a ∧ a ≤ 18446744073709551615) (hb : 0 ≤ b ∧ b ≤ 18446744073709551615) :
    Calls Try.prog 31 #[.int .u64 a, .int .u64 b] w fun e w' => e = .returned (.tuple #[.int .u64 (addV a b), .bool (addB a b)]) ∧ w = w' := by
  obtain ⟨h1, h2⟩ := ha
  obtain ⟨h3, h4⟩ := hb
  by_cases h : a ≤ 18446744073709551615 - b
  · go_enter Try.func31, Try.ntmps31
    go_wp2
    go_ret2
    exact ⟨ret2 (addV_yes h).symm (addB_yes h).symm, rfl⟩
  · go_enter Try.func31, Try.ntmps31
    go_wp2
    go_ret2
    exact ⟨ret2 (addV_no (by omega)).symm (addB_no (by omega)).symm, rfl⟩

/- The product: 'a > Most / b' says the same as 'a * b > Most' where b is positive. -/
theorem mul_test {a b : Int} (hb : 0 < b) : 18446744073709551615 / b < a ↔ ¬ a * b ≤ 18446744073709551615 := by
  rw [Int.not_le, Int.ediv_lt_iff_lt_mul hb]

end Go.Proofs.Ytbdafhephmoedaa
