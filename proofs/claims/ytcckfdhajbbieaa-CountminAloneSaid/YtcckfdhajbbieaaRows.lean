/-
  No cell of these rows narrows 'for every input' (looked for: loops, veiled, ifaces, maps, wideKeys, modest, calm, conditions, laid).
  DERIVED. THE GIVEN ROWS OF THIS SEAT. 6 by the template 'for every input the law returns true; each argument reads behind the call as it read before'; 0 by the template 'total and deterministic' (their statements: YtcckfdhajbbieaaTotals.lean).
  GIVEN WITH THE SEED: the statements are not yours to turn. If you find one false, say at which input.
  Laid BY PROGRAM, IN A SANDBOX (cutbox-rows.mjs): the forced cells as the released guide's own fill.sh prints them over the translation 95509b5640c86015… (all of the seat's roots in one cut). By AI agents, Wed Nov 11 2026. No macro, syntax, notation, axiom, sorry.
-/
import Derived.Test.YtcckfdhajbbieaaChecked
import GoSem.Claim
import GoSem.ClaimJoined
import GoSem.ClaimMapViews
import Derived.JoinedTies
import Derived.KernelRfl
namespace Go.Proofs.Ytcckfdhajbbieaa
/- THE CELL 'sum', in the pinned program and in every row, IS THE sha256 OF THE DUMP (.gsa) THAT YtcckfdhajbbieaaProg.lean LOADS. Nothing in Lean hashes anything: it is a label: what it is worth is what the hold of that sum in a sandbox is worth. -/
noncomputable def Try.pinned : Pinned := { name := "ytcckfdhajbbieaa", sum := "95509b5640c8601528f8779585971f6db3ef1d79584d2db8e9c5199f8b226927", checked := Try.checked }
namespace Rows
def none {H : Type} : Left H := { results := [], args := [] }

/-- 'heavykeyslaw16.CountminNew': WHATEVER THE INPUT: true; the input reads as it did. -/
def countminNewSpec : ChangeSpec := { name := "countminNew", fn := fun _ => fun
  | [d1, d2, d3, d4] => { results := [.lit (.bool true)], args := [d1, d2, d3, d4] }
  | _ => none }
def countminNewRow : OpenClaim := { program := "ytcckfdhajbbieaa", sum := "95509b5640c8601528f8779585971f6db3ef1d79584d2db8e9c5199f8b226927", func := "heavykeys/heavykeyslaw16.CountminNew", spec := "countminNew", apart := false }
def CountminNewSaid : Prop := countminNewRow.holds Try.pinned (OpenSpec.ofChange countminNewSpec)

/-- ITS FALSE NEIGHBOUR: 'it returns false'. Refute it at one input. -/
def countminNewWrong : ChangeSpec := { name := "countminNew", fn := fun _ => fun
  | [d1, d2, d3, d4] => { results := [.lit (.bool false)], args := [d1, d2, d3, d4] }
  | _ => none }
def CountminNewWrongFalsely : Prop := countminNewRow.holds Try.pinned (OpenSpec.ofChange countminNewWrong)

/-- 'heavykeyslaw16.CountminSteps': WHATEVER THE INPUT: true; the input reads as it did. -/
def countminStepsSpec : ChangeSpec := { name := "countminSteps", fn := fun _ => fun
  | [d1, d2, d3, d4, d5] => { results := [.lit (.bool true)], args := [d1, d2, d3, d4, d5] }
  | _ => none }
def countminStepsRow : OpenClaim := { program := "ytcckfdhajbbieaa", sum := "95509b5640c8601528f8779585971f6db3ef1d79584d2db8e9c5199f8b226927", func := "heavykeys/heavykeyslaw16.CountminSteps", spec := "countminSteps", apart := false }
def CountminStepsSaid : Prop := countminStepsRow.holds Try.pinned (OpenSpec.ofChange countminStepsSpec)

/-- ITS FALSE NEIGHBOUR: 'it returns false'. Refute it at one input. -/
def countminStepsWrong : ChangeSpec := { name := "countminSteps", fn := fun _ => fun
  | [d1, d2, d3, d4, d5] => { results := [.lit (.bool false)], args := [d1, d2, d3, d4, d5] }
  | _ => none }
def CountminStepsWrongFalsely : Prop := countminStepsRow.holds Try.pinned (OpenSpec.ofChange countminStepsWrong)

/-- 'heavykeyslaw16.CountminOf': WHATEVER THE INPUT: true; the input reads as it did. -/
def countminOfSpec : ChangeSpec := { name := "countminOf", fn := fun _ => fun
  | [d1, d2, d3, d4, d5] => { results := [.lit (.bool true)], args := [d1, d2, d3, d4, d5] }
  | _ => none }
def countminOfRow : OpenClaim := { program := "ytcckfdhajbbieaa", sum := "95509b5640c8601528f8779585971f6db3ef1d79584d2db8e9c5199f8b226927", func := "heavykeys/heavykeyslaw16.CountminOf", spec := "countminOf", apart := false }
def CountminOfSaid : Prop := countminOfRow.holds Try.pinned (OpenSpec.ofChange countminOfSpec)

/-- ITS FALSE NEIGHBOUR: 'it returns false'. Refute it at one input. -/
def countminOfWrong : ChangeSpec := { name := "countminOf", fn := fun _ => fun
  | [d1, d2, d3, d4, d5] => { results := [.lit (.bool false)], args := [d1, d2, d3, d4, d5] }
  | _ => none }
def CountminOfWrongFalsely : Prop := countminOfRow.holds Try.pinned (OpenSpec.ofChange countminOfWrong)

/-- 'heavykeyslaw16.CountminBounds': WHATEVER THE INPUT: true; the input reads as it did. -/
def countminBoundsSpec : ChangeSpec := { name := "countminBounds", fn := fun _ => fun
  | [d1, d2, d3, d4, d5] => { results := [.lit (.bool true)], args := [d1, d2, d3, d4, d5] }
  | _ => none }
def countminBoundsRow : OpenClaim := { program := "ytcckfdhajbbieaa", sum := "95509b5640c8601528f8779585971f6db3ef1d79584d2db8e9c5199f8b226927", func := "heavykeys/heavykeyslaw16.CountminBounds", spec := "countminBounds", apart := false }
def CountminBoundsSaid : Prop := countminBoundsRow.holds Try.pinned (OpenSpec.ofChange countminBoundsSpec)

/-- ITS FALSE NEIGHBOUR: 'it returns false'. Refute it at one input. -/
def countminBoundsWrong : ChangeSpec := { name := "countminBounds", fn := fun _ => fun
  | [d1, d2, d3, d4, d5] => { results := [.lit (.bool false)], args := [d1, d2, d3, d4, d5] }
  | _ => none }
def CountminBoundsWrongFalsely : Prop := countminBoundsRow.holds Try.pinned (OpenSpec.ofChange countminBoundsWrong)

/-- 'heavykeyslaw16.CountminRows': WHATEVER THE INPUT: true; the input reads as it did. -/
def countminRowsSpec : ChangeSpec := { name := "countminRows", fn := fun _ => fun
  | [d1, d2, d3, d4, d5] => { results := [.lit (.bool true)], args := [d1, d2, d3, d4, d5] }
  | _ => none }
def countminRowsRow : OpenClaim := { program := "ytcckfdhajbbieaa", sum := "95509b5640c8601528f8779585971f6db3ef1d79584d2db8e9c5199f8b226927", func := "heavykeys/heavykeyslaw16.CountminRows", spec := "countminRows", apart := false }
def CountminRowsSaid : Prop := countminRowsRow.holds Try.pinned (OpenSpec.ofChange countminRowsSpec)

/-- ITS FALSE NEIGHBOUR: 'it returns false'. Refute it at one input. -/
def countminRowsWrong : ChangeSpec := { name := "countminRows", fn := fun _ => fun
  | [d1, d2, d3, d4, d5] => { results := [.lit (.bool false)], args := [d1, d2, d3, d4, d5] }
  | _ => none }
def CountminRowsWrongFalsely : Prop := countminRowsRow.holds Try.pinned (OpenSpec.ofChange countminRowsWrong)

/-- 'heavykeyslaw16.CountminAlone': WHATEVER THE INPUT: true; the input reads as it did. -/
def countminAloneSpec : ChangeSpec := { name := "countminAlone", fn := fun _ => fun
  | [d1, d2, d3] => { results := [.lit (.bool true)], args := [d1, d2, d3] }
  | _ => none }
def countminAloneRow : OpenClaim := { program := "ytcckfdhajbbieaa", sum := "95509b5640c8601528f8779585971f6db3ef1d79584d2db8e9c5199f8b226927", func := "heavykeys/heavykeyslaw16.CountminAlone", spec := "countminAlone", apart := false }
def CountminAloneSaid : Prop := countminAloneRow.holds Try.pinned (OpenSpec.ofChange countminAloneSpec)

/-- ITS FALSE NEIGHBOUR: 'it returns false'. Refute it at one input. -/
def countminAloneWrong : ChangeSpec := { name := "countminAlone", fn := fun _ => fun
  | [d1, d2, d3] => { results := [.lit (.bool false)], args := [d1, d2, d3] }
  | _ => none }
def CountminAloneWrongFalsely : Prop := countminAloneRow.holds Try.pinned (OpenSpec.ofChange countminAloneWrong)

/- THE SECOND FORM. 'bulk': how many values and letters a reading holds, each counted each time it is reached (what is shared counts as often as it is met; a slice's spare places count too). A statement '..UptoSaid' is the law's where the arguments, and the package variables that the reading takes, are together of bulk at most 1048576: NARROWER than '..Said'. Prove '..Said' where nothing that the law and all that it calls make is longer than what came in: it says more and counts as full. Else prove '..UptoSaid'. A law counts once. -/
mutual
def uptoBulk {H : Type} : DataW H → Nat
  | .lit (.string bytes) => bytes.length + 1
  | .lit _ => 1
  | .nil => 1
  | .ptr d => uptoBulk d + 1
  | .slice elems spare => uptoBulkAll elems + uptoBulkAll spare + 1
  | .agg parts => uptoBulkAll parts + 1
  | .iface _ d => uptoBulk d + 1
  | .map entries => uptoBulkEntries entries + 1
  | .held _ => 1
def uptoBulkAll {H : Type} : List (DataW H) → Nat
  | [] => 0
  | d :: r => uptoBulk d + uptoBulkAll r
def uptoBulkEntries {H : Type} : List (Lit × DataW H) → Nat
  | [] => 0
  | x :: r => uptoBulkEntry x + uptoBulkEntries r
def uptoBulkEntry {H : Type} : Lit × DataW H → Nat
  | (.string bytes, d) => bytes.length + uptoBulk d + 1
  | (_, d) => uptoBulk d + 1
 end
def uptoSmall : (H : Type) → List (DataW H) → Bool := fun _ ds => decide (uptoBulkAll ds ≤ 1048576)
def OpenSpec.upto (s : _root_.Go.ChangeSpec) : _root_.Go.OpenSpec := { _root_.Go.OpenSpec.ofChange s with cond := some uptoSmall }

/-- 'heavykeyslaw16.CountminNew', WHERE WHAT IT READS IS OF BULK AT MOST 1048576: true; the input reads as it did. -/
def countminNewUptoRow : OpenClaim := { program := "ytcckfdhajbbieaa", sum := "95509b5640c8601528f8779585971f6db3ef1d79584d2db8e9c5199f8b226927", func := "heavykeys/heavykeyslaw16.CountminNew", spec := "countminNew", apart := false, narrowed := true }
def CountminNewUptoSaid : Prop := countminNewUptoRow.holds Try.pinned (OpenSpec.upto countminNewSpec)

/-- 'heavykeyslaw16.CountminSteps', WHERE WHAT IT READS IS OF BULK AT MOST 1048576: true; the input reads as it did. -/
def countminStepsUptoRow : OpenClaim := { program := "ytcckfdhajbbieaa", sum := "95509b5640c8601528f8779585971f6db3ef1d79584d2db8e9c5199f8b226927", func := "heavykeys/heavykeyslaw16.CountminSteps", spec := "countminSteps", apart := false, narrowed := true }
def CountminStepsUptoSaid : Prop := countminStepsUptoRow.holds Try.pinned (OpenSpec.upto countminStepsSpec)

/-- 'heavykeyslaw16.CountminOf', WHERE WHAT IT READS IS OF BULK AT MOST 1048576: true; the input reads as it did. -/
def countminOfUptoRow : OpenClaim := { program := "ytcckfdhajbbieaa", sum := "95509b5640c8601528f8779585971f6db3ef1d79584d2db8e9c5199f8b226927", func := "heavykeys/heavykeyslaw16.CountminOf", spec := "countminOf", apart := false, narrowed := true }
def CountminOfUptoSaid : Prop := countminOfUptoRow.holds Try.pinned (OpenSpec.upto countminOfSpec)

/-- 'heavykeyslaw16.CountminBounds', WHERE WHAT IT READS IS OF BULK AT MOST 1048576: true; the input reads as it did. -/
def countminBoundsUptoRow : OpenClaim := { program := "ytcckfdhajbbieaa", sum := "95509b5640c8601528f8779585971f6db3ef1d79584d2db8e9c5199f8b226927", func := "heavykeys/heavykeyslaw16.CountminBounds", spec := "countminBounds", apart := false, narrowed := true }
def CountminBoundsUptoSaid : Prop := countminBoundsUptoRow.holds Try.pinned (OpenSpec.upto countminBoundsSpec)

/-- 'heavykeyslaw16.CountminRows', WHERE WHAT IT READS IS OF BULK AT MOST 1048576: true; the input reads as it did. -/
def countminRowsUptoRow : OpenClaim := { program := "ytcckfdhajbbieaa", sum := "95509b5640c8601528f8779585971f6db3ef1d79584d2db8e9c5199f8b226927", func := "heavykeys/heavykeyslaw16.CountminRows", spec := "countminRows", apart := false, narrowed := true }
def CountminRowsUptoSaid : Prop := countminRowsUptoRow.holds Try.pinned (OpenSpec.upto countminRowsSpec)

/-- 'heavykeyslaw16.CountminAlone', WHERE WHAT IT READS IS OF BULK AT MOST 1048576: true; the input reads as it did. -/
def countminAloneUptoRow : OpenClaim := { program := "ytcckfdhajbbieaa", sum := "95509b5640c8601528f8779585971f6db3ef1d79584d2db8e9c5199f8b226927", func := "heavykeys/heavykeyslaw16.CountminAlone", spec := "countminAlone", apart := false, narrowed := true }
def CountminAloneUptoSaid : Prop := countminAloneUptoRow.holds Try.pinned (OpenSpec.upto countminAloneSpec)

end Rows
end Go.Proofs.Ytcckfdhajbbieaa
