/- heavykeysref01.SameTags. Conditions: none beyond those typed. -/
import Derived.Test.YtfihaonpifoekaaTmem
import Derived.Laws.StructEq
namespace Go.Proofs.Ytfihaonpifoekaa
open Go.ChangeShapes Go.WideShapes Go.ChangeAt Go.RowKit
set_option linter.unusedVariables false
set_option maxRecDepth 100000
set_option linter.unusedSimpArgs false


theorem fields_tag : Try.prog.underlying 73 = some (.struct (Try.prog.fieldsOf 73)) := by
  unfold Program.fieldsOf; rw [Try.underlying73]
theorem str_eq {a b : ByteArray} (h : a.toList = b.toList) : a = b := by
  rw [Lib.toList_data, Lib.toList_data] at h
  exact ByteArray.ext (Array.toList_inj.1 h)
theorem str_beq (a b : ByteArray) : (a.toList == b.toList) = decide (a = b) := by
  rw [Bool.eq_iff_iff, beq_iff_eq, decide_eq_true_iff]
  exact ⟨str_eq, fun h => by rw [h]⟩
theorem eqIn_tag (p q p' q' : ByteArray) (w : World) : (Op.equalIn 10000 73 (.agg #[.string p, .string q]) (.agg #[.string p', .string q'])).run Try.prog w = .ok (decide ((p, q) = (p', q'))) w := by
  have h9 := fun w => Try.isAgg9 w
  rw [run_equalIn_agg w 9999 _ _ _ fields_tag (by kernel_rfl)]
  unfold Program.fieldsOf
  rw [Try.underlying73]
  have e1 : ∀ (a b : ByteArray) (d : Nat) (w : World), (Op.equalIn (d + 1) 9 (.string a) (.string b)).run Try.prog w = .ok (decide (a = b)) w := fun a b d w => by
    rw [run_equalIn_string w d _ a b Try.underlying9, str_beq]
  simp [Op.eqFields, part, h9]
  rw [e1]
  by_cases h1 : p = p'
  · by_cases h2 : q = q' <;> simp [h1, h2, e1]
  · simp [h1]
theorem take_eq_next {l r : List Tg} {k : Nat} {t : Tg} (h : l.take k = r.take k) (hl : l[k]? = some t) (hr : r[k]? = some t) : l.take (k + 1) = r.take (k + 1) := by
  rw [List.take_add_one, List.take_add_one, h, hl, hr]
theorem ne_at {l r : List Tg} {k : Nat} {t u : Tg} (hl : l[k]? = some t) (hr : r[k]? = some u) (hne : t ≠ u) : decide (l = r) = false := by
  rw [decide_eq_false_iff_not]; rintro rfl; rw [hl] at hr; exact hne (Option.some.inj hr)

end Go.Proofs.Ytfihaonpifoekaa
