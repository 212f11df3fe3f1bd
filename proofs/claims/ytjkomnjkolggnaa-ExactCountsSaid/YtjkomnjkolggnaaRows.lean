/-
  No cell of these rows narrows 'for every input' (looked for: loops, veiled, ifaces, maps, wideKeys, modest, calm, conditions, laid).
  DERIVED. THE GIVEN ROWS OF THIS SEAT. 4 by the template 'for every input the law returns true; each argument reads behind the call as it read before'; 0 by the template 'total and deterministic' (their statements: YtjkomnjkolggnaaTotals.lean).
  GIVEN WITH THE SEED: the statements are not yours to turn. If you find one false, say at which input.
  Laid BY PROGRAM, IN A SANDBOX (cutbox-rows.mjs): the forced cells as the released guide's own fill.sh prints them over the translation e89d963ce9cf9956… (all of the seat's roots in one cut). By AI agents, Wed Nov 11 2026. No macro, syntax, notation, axiom, sorry.
-/
import Derived.Test.YtjkomnjkolggnaaChecked
import GoSem.Claim
import GoSem.ClaimJoined
import GoSem.ClaimMapViews
import Derived.JoinedTies
import Derived.KernelRfl
namespace Go.Proofs.Ytjkomnjkolggnaa
/- THE CELL 'sum', in the pinned program and in every row, IS THE sha256 OF THE DUMP (.gsa) THAT YtjkomnjkolggnaaProg.lean LOADS. Nothing in Lean hashes anything: it is a label: what it is worth is what the hold of that sum in a sandbox is worth. -/
noncomputable def Try.pinned : Pinned := { name := "ytjkomnjkolggnaa", sum := "e89d963ce9cf9956ba6acbb516741aea5bbb863d567a9477e928d1b51d4b465d", checked := Try.checked }
namespace Rows
def none {H : Type} : Left H := { results := [], args := [] }

/-- 'heavykeyslaw17.ExactNew': WHATEVER THE INPUT: true; the input reads as it did. -/
def exactNewSpec : ChangeSpec := { name := "exactNew", fn := fun _ => fun
  | [d] => { results := [.lit (.bool true)], args := [d] }
  | _ => none }
def exactNewRow : OpenClaim := { program := "ytjkomnjkolggnaa", sum := "e89d963ce9cf9956ba6acbb516741aea5bbb863d567a9477e928d1b51d4b465d", func := "heavykeys/heavykeyslaw17.ExactNew", spec := "exactNew", inPlace := ["slices.overlaps[heavykeys/api.Entry]"], unfollowed := true, recurses := true, apart := false }
def ExactNewSaid : Prop := exactNewRow.holds Try.pinned (OpenSpec.ofChange exactNewSpec)

/-- ITS FALSE NEIGHBOUR: 'it returns false'. Refute it at one input. -/
def exactNewWrong : ChangeSpec := { name := "exactNew", fn := fun _ => fun
  | [d] => { results := [.lit (.bool false)], args := [d] }
  | _ => none }
def ExactNewWrongFalsely : Prop := exactNewRow.holds Try.pinned (OpenSpec.ofChange exactNewWrong)

/-- 'heavykeyslaw17.ExactSteps': WHATEVER THE INPUT: true; the input reads as it did. -/
def exactStepsSpec : ChangeSpec := { name := "exactSteps", fn := fun _ => fun
  | [d1, d2, d3, d4, d5] => { results := [.lit (.bool true)], args := [d1, d2, d3, d4, d5] }
  | _ => none }
def exactStepsRow : OpenClaim := { program := "ytjkomnjkolggnaa", sum := "e89d963ce9cf9956ba6acbb516741aea5bbb863d567a9477e928d1b51d4b465d", func := "heavykeys/heavykeyslaw17.ExactSteps", spec := "exactSteps", inPlace := ["slices.overlaps[heavykeys/api.Entry]"], unfollowed := true, recurses := true, apart := false }
def ExactStepsSaid : Prop := exactStepsRow.holds Try.pinned (OpenSpec.ofChange exactStepsSpec)

/-- ITS FALSE NEIGHBOUR: 'it returns false'. Refute it at one input. -/
def exactStepsWrong : ChangeSpec := { name := "exactSteps", fn := fun _ => fun
  | [d1, d2, d3, d4, d5] => { results := [.lit (.bool false)], args := [d1, d2, d3, d4, d5] }
  | _ => none }
def ExactStepsWrongFalsely : Prop := exactStepsRow.holds Try.pinned (OpenSpec.ofChange exactStepsWrong)

/-- 'heavykeyslaw17.ExactCounts': WHATEVER THE INPUT: true; the input reads as it did. -/
def exactCountsSpec : ChangeSpec := { name := "exactCounts", fn := fun _ => fun
  | [d1, d2] => { results := [.lit (.bool true)], args := [d1, d2] }
  | _ => none }
def exactCountsRow : OpenClaim := { program := "ytjkomnjkolggnaa", sum := "e89d963ce9cf9956ba6acbb516741aea5bbb863d567a9477e928d1b51d4b465d", func := "heavykeys/heavykeyslaw17.ExactCounts", spec := "exactCounts", inPlace := ["slices.overlaps[heavykeys/api.Entry]"], unfollowed := true, recurses := true, apart := false }
def ExactCountsSaid : Prop := exactCountsRow.holds Try.pinned (OpenSpec.ofChange exactCountsSpec)

/-- ITS FALSE NEIGHBOUR: 'it returns false'. Refute it at one input. -/
def exactCountsWrong : ChangeSpec := { name := "exactCounts", fn := fun _ => fun
  | [d1, d2] => { results := [.lit (.bool false)], args := [d1, d2] }
  | _ => none }
def ExactCountsWrongFalsely : Prop := exactCountsRow.holds Try.pinned (OpenSpec.ofChange exactCountsWrong)

/-- 'heavykeyslaw17.ExactLeast': WHATEVER THE INPUT: true; the input reads as it did. -/
def exactLeastSpec : ChangeSpec := { name := "exactLeast", fn := fun _ => fun
  | [d] => { results := [.lit (.bool true)], args := [d] }
  | _ => none }
def exactLeastRow : OpenClaim := { program := "ytjkomnjkolggnaa", sum := "e89d963ce9cf9956ba6acbb516741aea5bbb863d567a9477e928d1b51d4b465d", func := "heavykeys/heavykeyslaw17.ExactLeast", spec := "exactLeast", inPlace := ["slices.overlaps[heavykeys/api.Entry]"], unfollowed := true, recurses := true, apart := false }
def ExactLeastSaid : Prop := exactLeastRow.holds Try.pinned (OpenSpec.ofChange exactLeastSpec)

/-- ITS FALSE NEIGHBOUR: 'it returns false'. Refute it at one input. -/
def exactLeastWrong : ChangeSpec := { name := "exactLeast", fn := fun _ => fun
  | [d] => { results := [.lit (.bool false)], args := [d] }
  | _ => none }
def ExactLeastWrongFalsely : Prop := exactLeastRow.holds Try.pinned (OpenSpec.ofChange exactLeastWrong)

/- THE SECOND FORM. 'bulk': how many values and letters a reading holds, each counted each time it is reached (what is shared counts as often as it is met; a slice's spare places count too). A statement '..UptoSaid' is the law's where the arguments, and the package variables that the reading takes, are together of bulk at most 1048576: NARROWER than '..Said'. Prove '..Said' where nothing that the law and all that it calls make is longer than what came in: it says more and counts as full. Else prove '..UptoSaid'. A law counts once. -/
mutual
def uptoBulk {H : Type} : DataW H → Nat
  | .lit (.string bytes) => bytes.length + 1
  | .lit _ => 1
  | .nil => 1
  | .ptr d => uptoBulk d + 1
  | .slice elems spare => uptoBulkAll elems + uptoBulkAll spare + 1
  | .agg parts => uptoBulkAll parts + 1
  | .iface _ d => uptoBulk d + 1
  | .map entries => uptoBulkEntries entries + 1
  | .held _ => 1
def uptoBulkAll {H : Type} : List (DataW H) → Nat
  | [] => 0
  | d :: r => uptoBulk d + uptoBulkAll r
def uptoBulkEntries {H : Type} : List (Lit × DataW H) → Nat
  | [] => 0
  | x :: r => uptoBulkEntry x + uptoBulkEntries r
def uptoBulkEntry {H : Type} : Lit × DataW H → Nat
  | (.string bytes, d) => bytes.length + uptoBulk d + 1
  | (_, d) => uptoBulk d + 1
 end
def uptoSmall : (H : Type) → List (DataW H) → Bool := fun _ ds => decide (uptoBulkAll ds ≤ 1048576)
def OpenSpec.upto (s : _root_.Go.ChangeSpec) : _root_.Go.OpenSpec := { _root_.Go.OpenSpec.ofChange s with cond := some uptoSmall }

/-- 'heavykeyslaw17.ExactNew', WHERE WHAT IT READS IS OF BULK AT MOST 1048576: true; the input reads as it did. -/
def exactNewUptoRow : OpenClaim := { program := "ytjkomnjkolggnaa", sum := "e89d963ce9cf9956ba6acbb516741aea5bbb863d567a9477e928d1b51d4b465d", func := "heavykeys/heavykeyslaw17.ExactNew", spec := "exactNew", inPlace := ["slices.overlaps[heavykeys/api.Entry]"], unfollowed := true, recurses := true, apart := false, narrowed := true }
def ExactNewUptoSaid : Prop := exactNewUptoRow.holds Try.pinned (OpenSpec.upto exactNewSpec)

/-- 'heavykeyslaw17.ExactSteps', WHERE WHAT IT READS IS OF BULK AT MOST 1048576: true; the input reads as it did. -/
def exactStepsUptoRow : OpenClaim := { program := "ytjkomnjkolggnaa", sum := "e89d963ce9cf9956ba6acbb516741aea5bbb863d567a9477e928d1b51d4b465d", func := "heavykeys/heavykeyslaw17.ExactSteps", spec := "exactSteps", inPlace := ["slices.overlaps[heavykeys/api.Entry]"], unfollowed := true, recurses := true, apart := false, narrowed := true }
def ExactStepsUptoSaid : Prop := exactStepsUptoRow.holds Try.pinned (OpenSpec.upto exactStepsSpec)

/-- 'heavykeyslaw17.ExactCounts', WHERE WHAT IT READS IS OF BULK AT MOST 1048576: true; the input reads as it did. -/
def exactCountsUptoRow : OpenClaim := { program := "ytjkomnjkolggnaa", sum := "e89d963ce9cf9956ba6acbb516741aea5bbb863d567a9477e928d1b51d4b465d", func := "heavykeys/heavykeyslaw17.ExactCounts", spec := "exactCounts", inPlace := ["slices.overlaps[heavykeys/api.Entry]"], unfollowed := true, recurses := true, apart := false, narrowed := true }
def ExactCountsUptoSaid : Prop := exactCountsUptoRow.holds Try.pinned (OpenSpec.upto exactCountsSpec)

/-- 'heavykeyslaw17.ExactLeast', WHERE WHAT IT READS IS OF BULK AT MOST 1048576: true; the input reads as it did. -/
def exactLeastUptoRow : OpenClaim := { program := "ytjkomnjkolggnaa", sum := "e89d963ce9cf9956ba6acbb516741aea5bbb863d567a9477e928d1b51d4b465d", func := "heavykeys/heavykeyslaw17.ExactLeast", spec := "exactLeast", inPlace := ["slices.overlaps[heavykeys/api.Entry]"], unfollowed := true, recurses := true, apart := false, narrowed := true }
def ExactLeastUptoSaid : Prop := exactLeastUptoRow.holds Try.pinned (OpenSpec.upto exactLeastSpec)

end Rows
end Go.Proofs.Ytjkomnjkolggnaa
