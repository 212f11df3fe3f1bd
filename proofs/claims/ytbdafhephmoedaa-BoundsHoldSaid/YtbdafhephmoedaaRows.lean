/-
  No cell of these rows narrows 'for every input' (looked for: loops, veiled, ifaces, maps, wideKeys, modest, calm, conditions, laid).
  DERIVED. THE GIVEN ROWS OF THIS SEAT. 4 by the template 'for every input the law returns true; each argument reads behind the call as it read before'; 0 by the template 'total and deterministic' (their statements: YtbdafhephmoedaaTotals.lean).
  GIVEN WITH THE SEED: the statements are not yours to turn. If you find one false, say at which input.
  Laid BY PROGRAM, IN A SANDBOX (cutbox-rows.mjs): the forced cells as the released guide's own fill.sh prints them over the translation 249b22e1bfc8827d… (all of the seat's roots in one cut). By AI agents, Wed Nov 11 2026. No macro, syntax, notation, axiom, sorry.
-/
import Derived.Test.YtbdafhephmoedaaChecked
import GoSem.Claim
import GoSem.ClaimJoined
import GoSem.ClaimMapViews
import Derived.JoinedTies
import Derived.KernelRfl
namespace Go.Proofs.Ytbdafhephmoedaa
/- THE CELL 'sum', in the pinned program and in every row, IS THE sha256 OF THE DUMP (.gsa) THAT YtbdafhephmoedaaProg.lean LOADS. Nothing in Lean hashes anything: it is a label: what it is worth is what the hold of that sum in a sandbox is worth. -/
noncomputable def Try.pinned : Pinned := { name := "ytbdafhephmoedaa", sum := "249b22e1bfc8827dfb4c6a8955ad8765d23a3272349f21c1d5347762f7853768", checked := Try.checked }
namespace Rows
def none {H : Type} : Left H := { results := [], args := [] }

/-- 'heavykeyslaw18.BoundsSums': WHATEVER THE INPUT: true; the input reads as it did. -/
def boundsSumsSpec : ChangeSpec := { name := "boundsSums", fn := fun _ => fun
  | [d1, d2, d3, d4, d5] => { results := [.lit (.bool true)], args := [d1, d2, d3, d4, d5] }
  | _ => none }
def boundsSumsRow : OpenClaim := { program := "ytbdafhephmoedaa", sum := "249b22e1bfc8827dfb4c6a8955ad8765d23a3272349f21c1d5347762f7853768", func := "heavykeys/heavykeyslaw18.BoundsSums", spec := "boundsSums", unfollowed := true, recurses := true, apart := false }
def BoundsSumsSaid : Prop := boundsSumsRow.holds Try.pinned (OpenSpec.ofChange boundsSumsSpec)

/-- ITS FALSE NEIGHBOUR: 'it returns false'. Refute it at one input. -/
def boundsSumsWrong : ChangeSpec := { name := "boundsSums", fn := fun _ => fun
  | [d1, d2, d3, d4, d5] => { results := [.lit (.bool false)], args := [d1, d2, d3, d4, d5] }
  | _ => none }
def BoundsSumsWrongFalsely : Prop := boundsSumsRow.holds Try.pinned (OpenSpec.ofChange boundsSumsWrong)

/-- 'heavykeyslaw18.BoundsSort': WHATEVER THE INPUT: true; the input reads as it did. -/
def boundsSortSpec : ChangeSpec := { name := "boundsSort", fn := fun _ => fun
  | [d1, d2] => { results := [.lit (.bool true)], args := [d1, d2] }
  | _ => none }
def boundsSortRow : OpenClaim := { program := "ytbdafhephmoedaa", sum := "249b22e1bfc8827dfb4c6a8955ad8765d23a3272349f21c1d5347762f7853768", func := "heavykeys/heavykeyslaw18.BoundsSort", spec := "boundsSort", unfollowed := true, recurses := true, apart := false }
def BoundsSortSaid : Prop := boundsSortRow.holds Try.pinned (OpenSpec.ofChange boundsSortSpec)

/-- ITS FALSE NEIGHBOUR: 'it returns false'. Refute it at one input. -/
def boundsSortWrong : ChangeSpec := { name := "boundsSort", fn := fun _ => fun
  | [d1, d2] => { results := [.lit (.bool false)], args := [d1, d2] }
  | _ => none }
def BoundsSortWrongFalsely : Prop := boundsSortRow.holds Try.pinned (OpenSpec.ofChange boundsSortWrong)

/-- 'heavykeyslaw18.BoundsHold': WHATEVER THE INPUT: true; the input reads as it did. -/
def boundsHoldSpec : ChangeSpec := { name := "boundsHold", fn := fun _ => fun
  | [d1, d2, d3, d4, d5] => { results := [.lit (.bool true)], args := [d1, d2, d3, d4, d5] }
  | _ => none }
def boundsHoldRow : OpenClaim := { program := "ytbdafhephmoedaa", sum := "249b22e1bfc8827dfb4c6a8955ad8765d23a3272349f21c1d5347762f7853768", func := "heavykeys/heavykeyslaw18.BoundsHold", spec := "boundsHold", unfollowed := true, recurses := true, apart := false }
def BoundsHoldSaid : Prop := boundsHoldRow.holds Try.pinned (OpenSpec.ofChange boundsHoldSpec)

/-- ITS FALSE NEIGHBOUR: 'it returns false'. Refute it at one input. -/
def boundsHoldWrong : ChangeSpec := { name := "boundsHold", fn := fun _ => fun
  | [d1, d2, d3, d4, d5] => { results := [.lit (.bool false)], args := [d1, d2, d3, d4, d5] }
  | _ => none }
def BoundsHoldWrongFalsely : Prop := boundsHoldRow.holds Try.pinned (OpenSpec.ofChange boundsHoldWrong)

/-- 'heavykeyslaw18.BoundsSorted': WHATEVER THE INPUT: true; the input reads as it did. -/
def boundsSortedSpec : ChangeSpec := { name := "boundsSorted", fn := fun _ => fun
  | [d] => { results := [.lit (.bool true)], args := [d] }
  | _ => none }
def boundsSortedRow : OpenClaim := { program := "ytbdafhephmoedaa", sum := "249b22e1bfc8827dfb4c6a8955ad8765d23a3272349f21c1d5347762f7853768", func := "heavykeys/heavykeyslaw18.BoundsSorted", spec := "boundsSorted", unfollowed := true, recurses := true, apart := false }
def BoundsSortedSaid : Prop := boundsSortedRow.holds Try.pinned (OpenSpec.ofChange boundsSortedSpec)

/-- ITS FALSE NEIGHBOUR: 'it returns false'. Refute it at one input. -/
def boundsSortedWrong : ChangeSpec := { name := "boundsSorted", fn := fun _ => fun
  | [d] => { results := [.lit (.bool false)], args := [d] }
  | _ => none }
def BoundsSortedWrongFalsely : Prop := boundsSortedRow.holds Try.pinned (OpenSpec.ofChange boundsSortedWrong)

/- THE SECOND FORM. 'bulk': how many values and letters a reading holds, each counted each time it is reached (what is shared counts as often as it is met; a slice's spare places count too). A statement '..UptoSaid' is the law's where the arguments, and the package variables that the reading takes, are together of bulk at most 1048576: NARROWER than '..Said'. Prove '..Said' where nothing that the law and all that it calls make is longer than what came in: it says more and counts as full. Else prove '..UptoSaid'. A law counts once. -/
mutual
def uptoBulk {H : Type} : DataW H → Nat
  | .lit (.string bytes) => bytes.length + 1
  | .lit _ => 1
  | .nil => 1
  | .ptr d => uptoBulk d + 1
  | .slice elems spare => uptoBulkAll elems + uptoBulkAll spare + 1
  | .agg parts => uptoBulkAll parts + 1
  | .iface _ d => uptoBulk d + 1
  | .map entries => uptoBulkEntries entries + 1
  | .held _ => 1
def uptoBulkAll {H : Type} : List (DataW H) → Nat
  | [] => 0
  | d :: r => uptoBulk d + uptoBulkAll r
def uptoBulkEntries {H : Type} : List (Lit × DataW H) → Nat
  | [] => 0
  | x :: r => uptoBulkEntry x + uptoBulkEntries r
def uptoBulkEntry {H : Type} : Lit × DataW H → Nat
  | (.string bytes, d) => bytes.length + uptoBulk d + 1
  | (_, d) => uptoBulk d + 1
 end
def uptoSmall : (H : Type) → List (DataW H) → Bool := fun _ ds => decide (uptoBulkAll ds ≤ 1048576)
def OpenSpec.upto (s : _root_.Go.ChangeSpec) : _root_.Go.OpenSpec := { _root_.Go.OpenSpec.ofChange s with cond := some uptoSmall }

/-- 'heavykeyslaw18.BoundsSums', WHERE WHAT IT READS IS OF BULK AT MOST 1048576: true; the input reads as it did. -/
def boundsSumsUptoRow : OpenClaim := { program := "ytbdafhephmoedaa", sum := "249b22e1bfc8827dfb4c6a8955ad8765d23a3272349f21c1d5347762f7853768", func := "heavykeys/heavykeyslaw18.BoundsSums", spec := "boundsSums", unfollowed := true, recurses := true, apart := false, narrowed := true }
def BoundsSumsUptoSaid : Prop := boundsSumsUptoRow.holds Try.pinned (OpenSpec.upto boundsSumsSpec)

/-- 'heavykeyslaw18.BoundsSort', WHERE WHAT IT READS IS OF BULK AT MOST 1048576: true; the input reads as it did. -/
def boundsSortUptoRow : OpenClaim := { program := "ytbdafhephmoedaa", sum := "249b22e1bfc8827dfb4c6a8955ad8765d23a3272349f21c1d5347762f7853768", func := "heavykeys/heavykeyslaw18.BoundsSort", spec := "boundsSort", unfollowed := true, recurses := true, apart := false, narrowed := true }
def BoundsSortUptoSaid : Prop := boundsSortUptoRow.holds Try.pinned (OpenSpec.upto boundsSortSpec)

/-- 'heavykeyslaw18.BoundsHold', WHERE WHAT IT READS IS OF BULK AT MOST 1048576: true; the input reads as it did. -/
def boundsHoldUptoRow : OpenClaim := { program := "ytbdafhephmoedaa", sum := "249b22e1bfc8827dfb4c6a8955ad8765d23a3272349f21c1d5347762f7853768", func := "heavykeys/heavykeyslaw18.BoundsHold", spec := "boundsHold", unfollowed := true, recurses := true, apart := false, narrowed := true }
def BoundsHoldUptoSaid : Prop := boundsHoldUptoRow.holds Try.pinned (OpenSpec.upto boundsHoldSpec)

/-- 'heavykeyslaw18.BoundsSorted', WHERE WHAT IT READS IS OF BULK AT MOST 1048576: true; the input reads as it did. -/
def boundsSortedUptoRow : OpenClaim := { program := "ytbdafhephmoedaa", sum := "249b22e1bfc8827dfb4c6a8955ad8765d23a3272349f21c1d5347762f7853768", func := "heavykeys/heavykeyslaw18.BoundsSorted", spec := "boundsSorted", unfollowed := true, recurses := true, apart := false, narrowed := true }
def BoundsSortedUptoSaid : Prop := boundsSortedUptoRow.holds Try.pinned (OpenSpec.upto boundsSortedSpec)

end Rows
end Go.Proofs.Ytbdafhephmoedaa
