/- heavykeysref01.SameTags. Conditions: none beyond those typed. -/
import Derived.Test.YtnmhgbdmjgejfaaTmem
import Derived.Laws.StructEq
namespace Go.Proofs.Ytnmhgbdmjgejfaa
open Go.ChangeShapes Go.WideShapes Go.ChangeAt Go.RowKit
set_option linter.unusedVariables false
set_option maxRecDepth 100000
set_option linter.unusedSimpArgs false


theorem str_eq {a b : ByteArray} (h : a.toList = b.toList) : a = b := by
  rw [Lib.toList_data, Lib.toList_data] at h
  exact ByteArray.ext (Array.toList_inj.1 h)
theorem str_beq (a b : ByteArray) : (a.toList == b.toList) = decide (a = b) := by
  rw [Bool.eq_iff_iff, beq_iff_eq, decide_eq_true_iff]
  exact ⟨str_eq, fun h => by rw [h]⟩
theorem take_eq_next {l r : List Tg} {k : Nat} {t : Tg} (h : l.take k = r.take k) (hl : l[k]? = some t) (hr : r[k]? = some t) : l.take (k + 1) = r.take (k + 1) := by
  rw [List.take_add_one, List.take_add_one, h, hl, hr]
theorem ne_at {l r : List Tg} {k : Nat} {t u : Tg} (hl : l[k]? = some t) (hr : r[k]? = some u) (hne : t ≠ u) : decide (l = r) = false := by
  rw [decide_eq_false_iff_not]; rintro rfl; rw [hl] at hr; exact hne (Option.some.inj hr)

end Go.Proofs.Ytnmhgbdmjgejfaa
