/-
  No cell of these rows narrows 'for every input' (looked for: loops, veiled, ifaces, maps, wideKeys, modest, calm, conditions, laid).
  DERIVED. THE GIVEN ROWS OF THIS SEAT. 5 by the template 'for every input the law returns true; each argument reads behind the call as it read before'; 0 by the template 'total and deterministic' (their statements: YtfcnmbahcdpcaaaTotals.lean).
  GIVEN WITH THE SEED: the statements are not yours to turn. If you find one false, say at which input.
  Laid BY PROGRAM, IN A SANDBOX (cutbox-rows.mjs): the forced cells as the released guide's own fill.sh prints them over the translation c9581ed10653b257… (all of the seat's roots in one cut). By AI agents, Wed Nov 11 2026. No macro, syntax, notation, axiom, sorry.
-/
import Derived.Test.YtfcnmbahcdpcaaaChecked
import GoSem.Claim
import GoSem.ClaimJoined
import GoSem.ClaimMapViews
import Derived.JoinedTies
import Derived.KernelRfl
namespace Go.Proofs.Ytfcnmbahcdpcaaa
/- THE CELL 'sum', in the pinned program and in every row, IS THE sha256 OF THE DUMP (.gsa) THAT YtfcnmbahcdpcaaaProg.lean LOADS. Nothing in Lean hashes anything: it is a label: what it is worth is what the hold of that sum in a sandbox is worth. -/
noncomputable def Try.pinned : Pinned := { name := "ytfcnmbahcdpcaaa", sum := "c9581ed10653b2575b5abddf7b8adb4350b9dd7ee04e23782c2717f2d5d304c6", checked := Try.checked }
namespace Rows
def none {H : Type} : Left H := { results := [], args := [] }

/-- 'heavykeyslaw08.ArenaCheck': WHATEVER THE INPUT: true; the input reads as it did. -/
def arenaCheckSpec : ChangeSpec := { name := "arenaCheck", fn := fun _ => fun
  | [d1, d2, d3, d4, d5] => { results := [.lit (.bool true)], args := [d1, d2, d3, d4, d5] }
  | _ => none }
def arenaCheckRow : OpenClaim := { program := "ytfcnmbahcdpcaaa", sum := "c9581ed10653b2575b5abddf7b8adb4350b9dd7ee04e23782c2717f2d5d304c6", func := "heavykeys/heavykeyslaw08.ArenaCheck", spec := "arenaCheck", apart := false }
def ArenaCheckSaid : Prop := arenaCheckRow.holds Try.pinned (OpenSpec.ofChange arenaCheckSpec)

/-- ITS FALSE NEIGHBOUR: 'it returns false'. Refute it at one input. -/
def arenaCheckWrong : ChangeSpec := { name := "arenaCheck", fn := fun _ => fun
  | [d1, d2, d3, d4, d5] => { results := [.lit (.bool false)], args := [d1, d2, d3, d4, d5] }
  | _ => none }
def ArenaCheckWrongFalsely : Prop := arenaCheckRow.holds Try.pinned (OpenSpec.ofChange arenaCheckWrong)

/-- 'heavykeyslaw08.ArenaSteps': WHATEVER THE INPUT: true; the input reads as it did. -/
def arenaStepsSpec : ChangeSpec := { name := "arenaSteps", fn := fun _ => fun
  | [d1, d2, d3] => { results := [.lit (.bool true)], args := [d1, d2, d3] }
  | _ => none }
def arenaStepsRow : OpenClaim := { program := "ytfcnmbahcdpcaaa", sum := "c9581ed10653b2575b5abddf7b8adb4350b9dd7ee04e23782c2717f2d5d304c6", func := "heavykeys/heavykeyslaw08.ArenaSteps", spec := "arenaSteps", apart := false }
def ArenaStepsSaid : Prop := arenaStepsRow.holds Try.pinned (OpenSpec.ofChange arenaStepsSpec)

/-- ITS FALSE NEIGHBOUR: 'it returns false'. Refute it at one input. -/
def arenaStepsWrong : ChangeSpec := { name := "arenaSteps", fn := fun _ => fun
  | [d1, d2, d3] => { results := [.lit (.bool false)], args := [d1, d2, d3] }
  | _ => none }
def ArenaStepsWrongFalsely : Prop := arenaStepsRow.holds Try.pinned (OpenSpec.ofChange arenaStepsWrong)

/-- 'heavykeyslaw08.ArenaDistinct': WHATEVER THE INPUT: true; the input reads as it did. -/
def arenaDistinctSpec : ChangeSpec := { name := "arenaDistinct", fn := fun _ => fun
  | [d1, d2] => { results := [.lit (.bool true)], args := [d1, d2] }
  | _ => none }
def arenaDistinctRow : OpenClaim := { program := "ytfcnmbahcdpcaaa", sum := "c9581ed10653b2575b5abddf7b8adb4350b9dd7ee04e23782c2717f2d5d304c6", func := "heavykeys/heavykeyslaw08.ArenaDistinct", spec := "arenaDistinct", apart := false }
def ArenaDistinctSaid : Prop := arenaDistinctRow.holds Try.pinned (OpenSpec.ofChange arenaDistinctSpec)

/-- ITS FALSE NEIGHBOUR: 'it returns false'. Refute it at one input. -/
def arenaDistinctWrong : ChangeSpec := { name := "arenaDistinct", fn := fun _ => fun
  | [d1, d2] => { results := [.lit (.bool false)], args := [d1, d2] }
  | _ => none }
def ArenaDistinctWrongFalsely : Prop := arenaDistinctRow.holds Try.pinned (OpenSpec.ofChange arenaDistinctWrong)

/-- 'heavykeyslaw08.ArenaStale': WHATEVER THE INPUT: true; the input reads as it did. -/
def arenaStaleSpec : ChangeSpec := { name := "arenaStale", fn := fun _ => fun
  | [d1, d2, d3] => { results := [.lit (.bool true)], args := [d1, d2, d3] }
  | _ => none }
def arenaStaleRow : OpenClaim := { program := "ytfcnmbahcdpcaaa", sum := "c9581ed10653b2575b5abddf7b8adb4350b9dd7ee04e23782c2717f2d5d304c6", func := "heavykeys/heavykeyslaw08.ArenaStale", spec := "arenaStale", apart := false }
def ArenaStaleSaid : Prop := arenaStaleRow.holds Try.pinned (OpenSpec.ofChange arenaStaleSpec)

/-- ITS FALSE NEIGHBOUR: 'it returns false'. Refute it at one input. -/
def arenaStaleWrong : ChangeSpec := { name := "arenaStale", fn := fun _ => fun
  | [d1, d2, d3] => { results := [.lit (.bool false)], args := [d1, d2, d3] }
  | _ => none }
def ArenaStaleWrongFalsely : Prop := arenaStaleRow.holds Try.pinned (OpenSpec.ofChange arenaStaleWrong)

/-- 'heavykeyslaw08.ArenaCounts': WHATEVER THE INPUT: true; the input reads as it did. -/
def arenaCountsSpec : ChangeSpec := { name := "arenaCounts", fn := fun _ => fun
  | [d1, d2] => { results := [.lit (.bool true)], args := [d1, d2] }
  | _ => none }
def arenaCountsRow : OpenClaim := { program := "ytfcnmbahcdpcaaa", sum := "c9581ed10653b2575b5abddf7b8adb4350b9dd7ee04e23782c2717f2d5d304c6", func := "heavykeys/heavykeyslaw08.ArenaCounts", spec := "arenaCounts", apart := false }
def ArenaCountsSaid : Prop := arenaCountsRow.holds Try.pinned (OpenSpec.ofChange arenaCountsSpec)

/-- ITS FALSE NEIGHBOUR: 'it returns false'. Refute it at one input. -/
def arenaCountsWrong : ChangeSpec := { name := "arenaCounts", fn := fun _ => fun
  | [d1, d2] => { results := [.lit (.bool false)], args := [d1, d2] }
  | _ => none }
def ArenaCountsWrongFalsely : Prop := arenaCountsRow.holds Try.pinned (OpenSpec.ofChange arenaCountsWrong)

/- THE SECOND FORM. 'bulk': how many values and letters a reading holds, each counted each time it is reached (what is shared counts as often as it is met; a slice's spare places count too). A statement '..UptoSaid' is the law's where the arguments, and the package variables that the reading takes, are together of bulk at most 1048576: NARROWER than '..Said'. Prove '..Said' where nothing that the law and all that it calls make is longer than what came in: it says more and counts as full. Else prove '..UptoSaid'. A law counts once. -/
mutual
def uptoBulk {H : Type} : DataW H → Nat
  | .lit (.string bytes) => bytes.length + 1
  | .lit _ => 1
  | .nil => 1
  | .ptr d => uptoBulk d + 1
  | .slice elems spare => uptoBulkAll elems + uptoBulkAll spare + 1
  | .agg parts => uptoBulkAll parts + 1
  | .iface _ d => uptoBulk d + 1
  | .map entries => uptoBulkEntries entries + 1
  | .held _ => 1
def uptoBulkAll {H : Type} : List (DataW H) → Nat
  | [] => 0
  | d :: r => uptoBulk d + uptoBulkAll r
def uptoBulkEntries {H : Type} : List (Lit × DataW H) → Nat
  | [] => 0
  | x :: r => uptoBulkEntry x + uptoBulkEntries r
def uptoBulkEntry {H : Type} : Lit × DataW H → Nat
  | (.string bytes, d) => bytes.length + uptoBulk d + 1
  | (_, d) => uptoBulk d + 1
 end
def uptoSmall : (H : Type) → List (DataW H) → Bool := fun _ ds => decide (uptoBulkAll ds ≤ 1048576)
def OpenSpec.upto (s : _root_.Go.ChangeSpec) : _root_.Go.OpenSpec := { _root_.Go.OpenSpec.ofChange s with cond := some uptoSmall }

/-- 'heavykeyslaw08.ArenaCheck', WHERE WHAT IT READS IS OF BULK AT MOST 1048576: true; the input reads as it did. -/
def arenaCheckUptoRow : OpenClaim := { program := "ytfcnmbahcdpcaaa", sum := "c9581ed10653b2575b5abddf7b8adb4350b9dd7ee04e23782c2717f2d5d304c6", func := "heavykeys/heavykeyslaw08.ArenaCheck", spec := "arenaCheck", apart := false, narrowed := true }
def ArenaCheckUptoSaid : Prop := arenaCheckUptoRow.holds Try.pinned (OpenSpec.upto arenaCheckSpec)

/-- 'heavykeyslaw08.ArenaSteps', WHERE WHAT IT READS IS OF BULK AT MOST 1048576: true; the input reads as it did. -/
def arenaStepsUptoRow : OpenClaim := { program := "ytfcnmbahcdpcaaa", sum := "c9581ed10653b2575b5abddf7b8adb4350b9dd7ee04e23782c2717f2d5d304c6", func := "heavykeys/heavykeyslaw08.ArenaSteps", spec := "arenaSteps", apart := false, narrowed := true }
def ArenaStepsUptoSaid : Prop := arenaStepsUptoRow.holds Try.pinned (OpenSpec.upto arenaStepsSpec)

/-- 'heavykeyslaw08.ArenaDistinct', WHERE WHAT IT READS IS OF BULK AT MOST 1048576: true; the input reads as it did. -/
def arenaDistinctUptoRow : OpenClaim := { program := "ytfcnmbahcdpcaaa", sum := "c9581ed10653b2575b5abddf7b8adb4350b9dd7ee04e23782c2717f2d5d304c6", func := "heavykeys/heavykeyslaw08.ArenaDistinct", spec := "arenaDistinct", apart := false, narrowed := true }
def ArenaDistinctUptoSaid : Prop := arenaDistinctUptoRow.holds Try.pinned (OpenSpec.upto arenaDistinctSpec)

/-- 'heavykeyslaw08.ArenaStale', WHERE WHAT IT READS IS OF BULK AT MOST 1048576: true; the input reads as it did. -/
def arenaStaleUptoRow : OpenClaim := { program := "ytfcnmbahcdpcaaa", sum := "c9581ed10653b2575b5abddf7b8adb4350b9dd7ee04e23782c2717f2d5d304c6", func := "heavykeys/heavykeyslaw08.ArenaStale", spec := "arenaStale", apart := false, narrowed := true }
def ArenaStaleUptoSaid : Prop := arenaStaleUptoRow.holds Try.pinned (OpenSpec.upto arenaStaleSpec)

/-- 'heavykeyslaw08.ArenaCounts', WHERE WHAT IT READS IS OF BULK AT MOST 1048576: true; the input reads as it did. -/
def arenaCountsUptoRow : OpenClaim := { program := "ytfcnmbahcdpcaaa", sum := "c9581ed10653b2575b5abddf7b8adb4350b9dd7ee04e23782c2717f2d5d304c6", func := "heavykeys/heavykeyslaw08.ArenaCounts", spec := "arenaCounts", apart := false, narrowed := true }
def ArenaCountsUptoSaid : Prop := arenaCountsUptoRow.holds Try.pinned (OpenSpec.upto arenaCountsSpec)

end Rows
end Go.Proofs.Ytfcnmbahcdpcaaa
