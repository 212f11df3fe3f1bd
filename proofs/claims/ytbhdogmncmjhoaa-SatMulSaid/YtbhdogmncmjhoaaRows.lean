/-
  No cell of these rows narrows 'for every input' (looked for: loops, veiled, ifaces, maps, wideKeys, modest, calm, conditions, laid).
  DERIVED. THE GIVEN ROWS OF THIS SEAT. 4 by the template 'for every input the law returns true; each argument reads behind the call as it read before'; 0 by the template 'total and deterministic' (their statements: YtbhdogmncmjhoaaTotals.lean).
  GIVEN WITH THE SEED: the statements are not yours to turn. If you find one false, say at which input.
  Laid BY PROGRAM, IN A SANDBOX (cutbox-rows.mjs): the forced cells as the released guide's own fill.sh prints them over the translation 0f506029c40fc4be… (all of the seat's roots in one cut). By AI agents, Wed Nov 11 2026. No macro, syntax, notation, axiom, sorry.
-/
import Derived.Test.YtbhdogmncmjhoaaChecked
import GoSem.Claim
import GoSem.ClaimJoined
import GoSem.ClaimMapViews
import Derived.JoinedTies
import Derived.KernelRfl
namespace Go.Proofs.Ytbhdogmncmjhoaa
/- THE CELL 'sum', in the pinned program and in every row, IS THE sha256 OF THE DUMP (.gsa) THAT YtbhdogmncmjhoaaProg.lean LOADS. Nothing in Lean hashes anything: it is a label: what it is worth is what the hold of that sum in a sandbox is worth. -/
noncomputable def Try.pinned : Pinned := { name := "ytbhdogmncmjhoaa", sum := "0f506029c40fc4be4a02b38fe22c5046b1ec153141baeef0d419afdc9d854ec8", checked := Try.checked }
namespace Rows
def none {H : Type} : Left H := { results := [], args := [] }

/-- 'heavykeyslaw01.SatSums': WHATEVER THE INPUT: true; the input reads as it did. -/
def satSumsSpec : ChangeSpec := { name := "satSums", fn := fun _ => fun
  | [d1, d2] => { results := [.lit (.bool true)], args := [d1, d2] }
  | _ => none }
def satSumsRow : OpenClaim := { program := "ytbhdogmncmjhoaa", sum := "0f506029c40fc4be4a02b38fe22c5046b1ec153141baeef0d419afdc9d854ec8", func := "heavykeys/heavykeyslaw01.SatSums", spec := "satSums", apart := false }
def SatSumsSaid : Prop := satSumsRow.holds Try.pinned (OpenSpec.ofChange satSumsSpec)

/-- ITS FALSE NEIGHBOUR: 'it returns false'. Refute it at one input. -/
def satSumsWrong : ChangeSpec := { name := "satSums", fn := fun _ => fun
  | [d1, d2] => { results := [.lit (.bool false)], args := [d1, d2] }
  | _ => none }
def SatSumsWrongFalsely : Prop := satSumsRow.holds Try.pinned (OpenSpec.ofChange satSumsWrong)

/-- 'heavykeyslaw01.SatMul': WHATEVER THE INPUT: true; the input reads as it did. -/
def satMulSpec : ChangeSpec := { name := "satMul", fn := fun _ => fun
  | [d1, d2] => { results := [.lit (.bool true)], args := [d1, d2] }
  | _ => none }
def satMulRow : OpenClaim := { program := "ytbhdogmncmjhoaa", sum := "0f506029c40fc4be4a02b38fe22c5046b1ec153141baeef0d419afdc9d854ec8", func := "heavykeys/heavykeyslaw01.SatMul", spec := "satMul", apart := false }
def SatMulSaid : Prop := satMulRow.holds Try.pinned (OpenSpec.ofChange satMulSpec)

/-- ITS FALSE NEIGHBOUR: 'it returns false'. Refute it at one input. -/
def satMulWrong : ChangeSpec := { name := "satMul", fn := fun _ => fun
  | [d1, d2] => { results := [.lit (.bool false)], args := [d1, d2] }
  | _ => none }
def SatMulWrongFalsely : Prop := satMulRow.holds Try.pinned (OpenSpec.ofChange satMulWrong)

/-- 'heavykeyslaw01.SatFits': WHATEVER THE INPUT: true; the input reads as it did. -/
def satFitsSpec : ChangeSpec := { name := "satFits", fn := fun _ => fun
  | [d1, d2, d3] => { results := [.lit (.bool true)], args := [d1, d2, d3] }
  | _ => none }
def satFitsRow : OpenClaim := { program := "ytbhdogmncmjhoaa", sum := "0f506029c40fc4be4a02b38fe22c5046b1ec153141baeef0d419afdc9d854ec8", func := "heavykeys/heavykeyslaw01.SatFits", spec := "satFits", apart := false }
def SatFitsSaid : Prop := satFitsRow.holds Try.pinned (OpenSpec.ofChange satFitsSpec)

/-- ITS FALSE NEIGHBOUR: 'it returns false'. Refute it at one input. -/
def satFitsWrong : ChangeSpec := { name := "satFits", fn := fun _ => fun
  | [d1, d2, d3] => { results := [.lit (.bool false)], args := [d1, d2, d3] }
  | _ => none }
def SatFitsWrongFalsely : Prop := satFitsRow.holds Try.pinned (OpenSpec.ofChange satFitsWrong)

/-- 'heavykeyslaw01.SatBack': WHATEVER THE INPUT: true; the input reads as it did. -/
def satBackSpec : ChangeSpec := { name := "satBack", fn := fun _ => fun
  | [d1, d2, d3] => { results := [.lit (.bool true)], args := [d1, d2, d3] }
  | _ => none }
def satBackRow : OpenClaim := { program := "ytbhdogmncmjhoaa", sum := "0f506029c40fc4be4a02b38fe22c5046b1ec153141baeef0d419afdc9d854ec8", func := "heavykeys/heavykeyslaw01.SatBack", spec := "satBack", apart := false }
def SatBackSaid : Prop := satBackRow.holds Try.pinned (OpenSpec.ofChange satBackSpec)

/-- ITS FALSE NEIGHBOUR: 'it returns false'. Refute it at one input. -/
def satBackWrong : ChangeSpec := { name := "satBack", fn := fun _ => fun
  | [d1, d2, d3] => { results := [.lit (.bool false)], args := [d1, d2, d3] }
  | _ => none }
def SatBackWrongFalsely : Prop := satBackRow.holds Try.pinned (OpenSpec.ofChange satBackWrong)

/- THE SECOND FORM. 'bulk': how many values and letters a reading holds, each counted each time it is reached (what is shared counts as often as it is met; a slice's spare places count too). A statement '..UptoSaid' is the law's where the arguments, and the package variables that the reading takes, are together of bulk at most 1048576: NARROWER than '..Said'. Prove '..Said' where nothing that the law and all that it calls make is longer than what came in: it says more and counts as full. Else prove '..UptoSaid'. A law counts once. -/
mutual
def uptoBulk {H : Type} : DataW H → Nat
  | .lit (.string bytes) => bytes.length + 1
  | .lit _ => 1
  | .nil => 1
  | .ptr d => uptoBulk d + 1
  | .slice elems spare => uptoBulkAll elems + uptoBulkAll spare + 1
  | .agg parts => uptoBulkAll parts + 1
  | .iface _ d => uptoBulk d + 1
  | .map entries => uptoBulkEntries entries + 1
  | .held _ => 1
def uptoBulkAll {H : Type} : List (DataW H) → Nat
  | [] => 0
  | d :: r => uptoBulk d + uptoBulkAll r
def uptoBulkEntries {H : Type} : List (Lit × DataW H) → Nat
  | [] => 0
  | x :: r => uptoBulkEntry x + uptoBulkEntries r
def uptoBulkEntry {H : Type} : Lit × DataW H → Nat
  | (.string bytes, d) => bytes.length + uptoBulk d + 1
  | (_, d) => uptoBulk d + 1
 end
def uptoSmall : (H : Type) → List (DataW H) → Bool := fun _ ds => decide (uptoBulkAll ds ≤ 1048576)
def OpenSpec.upto (s : _root_.Go.ChangeSpec) : _root_.Go.OpenSpec := { _root_.Go.OpenSpec.ofChange s with cond := some uptoSmall }

/-- 'heavykeyslaw01.SatSums', WHERE WHAT IT READS IS OF BULK AT MOST 1048576: true; the input reads as it did. -/
def satSumsUptoRow : OpenClaim := { program := "ytbhdogmncmjhoaa", sum := "0f506029c40fc4be4a02b38fe22c5046b1ec153141baeef0d419afdc9d854ec8", func := "heavykeys/heavykeyslaw01.SatSums", spec := "satSums", apart := false, narrowed := true }
def SatSumsUptoSaid : Prop := satSumsUptoRow.holds Try.pinned (OpenSpec.upto satSumsSpec)

/-- 'heavykeyslaw01.SatMul', WHERE WHAT IT READS IS OF BULK AT MOST 1048576: true; the input reads as it did. -/
def satMulUptoRow : OpenClaim := { program := "ytbhdogmncmjhoaa", sum := "0f506029c40fc4be4a02b38fe22c5046b1ec153141baeef0d419afdc9d854ec8", func := "heavykeys/heavykeyslaw01.SatMul", spec := "satMul", apart := false, narrowed := true }
def SatMulUptoSaid : Prop := satMulUptoRow.holds Try.pinned (OpenSpec.upto satMulSpec)

/-- 'heavykeyslaw01.SatFits', WHERE WHAT IT READS IS OF BULK AT MOST 1048576: true; the input reads as it did. -/
def satFitsUptoRow : OpenClaim := { program := "ytbhdogmncmjhoaa", sum := "0f506029c40fc4be4a02b38fe22c5046b1ec153141baeef0d419afdc9d854ec8", func := "heavykeys/heavykeyslaw01.SatFits", spec := "satFits", apart := false, narrowed := true }
def SatFitsUptoSaid : Prop := satFitsUptoRow.holds Try.pinned (OpenSpec.upto satFitsSpec)

/-- 'heavykeyslaw01.SatBack', WHERE WHAT IT READS IS OF BULK AT MOST 1048576: true; the input reads as it did. -/
def satBackUptoRow : OpenClaim := { program := "ytbhdogmncmjhoaa", sum := "0f506029c40fc4be4a02b38fe22c5046b1ec153141baeef0d419afdc9d854ec8", func := "heavykeys/heavykeyslaw01.SatBack", spec := "satBack", apart := false, narrowed := true }
def SatBackUptoSaid : Prop := satBackUptoRow.holds Try.pinned (OpenSpec.upto satBackSpec)

end Rows
end Go.Proofs.Ytbhdogmncmjhoaa
