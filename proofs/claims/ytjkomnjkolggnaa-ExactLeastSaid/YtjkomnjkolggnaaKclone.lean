/- strings.Clone. Conditions: a text that fits into memory. -/
import Derived.Test.YtjkomnjkolggnaaShelfc
import Derived.Test.YtjkomnjkolggnaaBase
namespace Go.Proofs.Ytjkomnjkolggnaa
open Go.ChangeShapes Go.WideShapes Go.ChangeAt Go.RowKit
set_option linter.unusedVariables false
set_option linter.unusedSimpArgs false
theorem clone_str (s : ByteArray) (w : World) (hlim : s.size ≤ 281474976710656) : Calls Try.prog 31 #[.string s] w fun e w' => e = .returned (.string s) ∧ Below w.heap.size w w' := by
  go_enter Try.func31, Try.ntmps31
  go_wp2_with fail
  refine (Try.stringslite_Clone s w hlim).mono ?_
  rintro e w1 ⟨rfl, hb⟩
  go_wp2
  go_ret
  exact ⟨rfl, hb⟩
end Go.Proofs.Ytjkomnjkolggnaa
