/- cmp.Compare of texts. Conditions: none beyond those typed. -/
import Derived.Test.YtbdafhephmoedaaMmath
import Derived.Test.YtbdafhephmoedaaSvref
import Derived.Laws.Cover1
namespace Go.Proofs.Ytbdafhephmoedaa
open Go.ChangeShapes Go.WideShapes Go.ChangeAt Go.RowKit
set_option linter.unusedVariables false
set_option linter.unusedSimpArgs false
set_option maxRecDepth 100000

theorem isNaNs_any (x : ByteArray) (w : World) : Calls Try.prog 39 #[.string x] w fun e w' => e = .returned (.bool false) ∧ w' = w := by
  have h : (x.toList != x.toList) = false := by simp
  have h2 : (x.toList == x.toList) = true := by simp
  go_enter Try.func39, Try.ntmps39
  go_wp2
  go_ret
  exact ⟨rfl, rfl⟩
/-- What cmp.Compare tells of two texts. -/
def cmpS (x y : ByteArray) : Int := if sless x y = true then -1 else if sless y x = true then 1 else 0
set_option maxHeartbeats 1000000 in
theorem cmpS_any (x y : ByteArray) (w : World) : Calls Try.prog 35 #[.string x, .string y] w fun e w' => e = .returned (.int .i64 (cmpS x y)) ∧ w' = w := by
  cases h1 : sless x y with
  | true =>
    have HE := Lib.hid (show cmpS x y = -1 from if_pos h1)
    have h1' : Op.bytesLess x.toList y.toList = true := h1
    go_enter Try.func35, Try.ntmps35
    go_wp2_with (go_at_call 39; refine (isNaNs_any _ _).mono ?_; rintro e w' ⟨rfl, rfl⟩)
    go_ret
    rw [HE.out]
    exact ⟨rfl, rfl⟩
  | false =>
    have h1' : Op.bytesLess x.toList y.toList = false := h1
    cases h2 : sless y x with
    | true =>
      have h2' : Op.bytesLess y.toList x.toList = true := h2
      have h3' : (x.toList == y.toList) = false := by rw [str_eq_en]; exact decide_eq_false fun e => by rw [e, sless_irrefl] at h2; cases h2
      have HE := Lib.hid (show cmpS x y = 1 by unfold cmpS; rw [h1, h2]; rfl)
      go_enter Try.func35, Try.ntmps35
      go_wp2_with (go_at_call 39; refine (isNaNs_any _ _).mono ?_; rintro e w' ⟨rfl, rfl⟩)
      go_ret
      rw [HE.out]
      exact ⟨rfl, rfl⟩
    | false =>
      have h2' : Op.bytesLess y.toList x.toList = false := h2
      have h3' : (x.toList == y.toList) = true := by
        rw [str_eq_en]
        rcases sless_total x y with e | e | e
        · exact decide_eq_true e
        · rw [h1] at e; cases e
        · rw [h2] at e; cases e
      have HE := Lib.hid (show cmpS x y = 0 by unfold cmpS; rw [h1, h2]; rfl)
      go_enter Try.func35, Try.ntmps35
      go_wp2_with (go_at_call 39; refine (isNaNs_any _ _).mono ?_; rintro e w' ⟨rfl, rfl⟩)
      go_ret
      rw [HE.out]
      exact ⟨rfl, rfl⟩
theorem cmpS_lt {x y : ByteArray} (h : sless x y = true) : cmpS x y = -1 := if_pos h
theorem cmpS_gt {x y : ByteArray} (h : sless y x = true) : cmpS x y = 1 := by unfold cmpS; rw [sless_asymm h, h]; rfl
theorem cmpS_eq (x : ByteArray) : cmpS x x = 0 := by unfold cmpS; rw [sless_irrefl]; rfl
end Go.Proofs.Ytbdafhephmoedaa
