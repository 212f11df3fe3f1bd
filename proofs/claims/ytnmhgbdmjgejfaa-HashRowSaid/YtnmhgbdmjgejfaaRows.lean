/-
  No cell of these rows narrows 'for every input' (looked for: loops, veiled, ifaces, maps, wideKeys, modest, calm, conditions, laid).
  DERIVED. THE GIVEN ROWS OF THIS SEAT. 4 by the template 'for every input the law returns true; each argument reads behind the call as it read before'; 0 by the template 'total and deterministic' (their statements: YtnmhgbdmjgejfaaTotals.lean).
  GIVEN WITH THE SEED: the statements are not yours to turn. If you find one false, say at which input.
  Laid BY PROGRAM, IN A SANDBOX (cutbox-rows.mjs): the forced cells as the released guide's own fill.sh prints them over the translation 3a2179dd95f16373… (all of the seat's roots in one cut). By AI agents, Wed Nov 11 2026. No macro, syntax, notation, axiom, sorry.
-/
import Derived.Test.YtnmhgbdmjgejfaaChecked
import GoSem.Claim
import GoSem.ClaimJoined
import GoSem.ClaimMapViews
import Derived.JoinedTies
import Derived.KernelRfl
namespace Go.Proofs.Ytnmhgbdmjgejfaa
/- THE CELL 'sum', in the pinned program and in every row, IS THE sha256 OF THE DUMP (.gsa) THAT YtnmhgbdmjgejfaaProg.lean LOADS. Nothing in Lean hashes anything: it is a label: what it is worth is what the hold of that sum in a sandbox is worth. -/
noncomputable def Try.pinned : Pinned := { name := "ytnmhgbdmjgejfaa", sum := "3a2179dd95f16373ad63b033ac1d686602c65030ccd624b9e10f6d592b336f42", checked := Try.checked }
namespace Rows
def none {H : Type} : Left H := { results := [], args := [] }

/-- 'heavykeyslaw07.HashKey': WHATEVER THE INPUT: true; the input reads as it did. -/
def hashKeySpec : ChangeSpec := { name := "hashKey", fn := fun _ => fun
  | [d1, d2, d3, d4] => { results := [.lit (.bool true)], args := [d1, d2, d3, d4] }
  | _ => none }
def hashKeyRow : OpenClaim := { program := "ytnmhgbdmjgejfaa", sum := "3a2179dd95f16373ad63b033ac1d686602c65030ccd624b9e10f6d592b336f42", func := "heavykeys/heavykeyslaw07.HashKey", spec := "hashKey", apart := false }
def HashKeySaid : Prop := hashKeyRow.holds Try.pinned (OpenSpec.ofChange hashKeySpec)

/-- ITS FALSE NEIGHBOUR: 'it returns false'. Refute it at one input. -/
def hashKeyWrong : ChangeSpec := { name := "hashKey", fn := fun _ => fun
  | [d1, d2, d3, d4] => { results := [.lit (.bool false)], args := [d1, d2, d3, d4] }
  | _ => none }
def HashKeyWrongFalsely : Prop := hashKeyRow.holds Try.pinned (OpenSpec.ofChange hashKeyWrong)

/-- 'heavykeyslaw07.HashRow': WHATEVER THE INPUT: true; the input reads as it did. -/
def hashRowSpec : ChangeSpec := { name := "hashRow", fn := fun _ => fun
  | [d1, d2, d3, d4, d5, d6] => { results := [.lit (.bool true)], args := [d1, d2, d3, d4, d5, d6] }
  | _ => none }
def hashRowRow : OpenClaim := { program := "ytnmhgbdmjgejfaa", sum := "3a2179dd95f16373ad63b033ac1d686602c65030ccd624b9e10f6d592b336f42", func := "heavykeys/heavykeyslaw07.HashRow", spec := "hashRow", apart := false }
def HashRowSaid : Prop := hashRowRow.holds Try.pinned (OpenSpec.ofChange hashRowSpec)

/-- ITS FALSE NEIGHBOUR: 'it returns false'. Refute it at one input. -/
def hashRowWrong : ChangeSpec := { name := "hashRow", fn := fun _ => fun
  | [d1, d2, d3, d4, d5, d6] => { results := [.lit (.bool false)], args := [d1, d2, d3, d4, d5, d6] }
  | _ => none }
def HashRowWrongFalsely : Prop := hashRowRow.holds Try.pinned (OpenSpec.ofChange hashRowWrong)

/-- 'heavykeyslaw07.HashSlot': WHATEVER THE INPUT: true; the input reads as it did. -/
def hashSlotSpec : ChangeSpec := { name := "hashSlot", fn := fun _ => fun
  | [d1, d2] => { results := [.lit (.bool true)], args := [d1, d2] }
  | _ => none }
def hashSlotRow : OpenClaim := { program := "ytnmhgbdmjgejfaa", sum := "3a2179dd95f16373ad63b033ac1d686602c65030ccd624b9e10f6d592b336f42", func := "heavykeys/heavykeyslaw07.HashSlot", spec := "hashSlot", apart := false }
def HashSlotSaid : Prop := hashSlotRow.holds Try.pinned (OpenSpec.ofChange hashSlotSpec)

/-- ITS FALSE NEIGHBOUR: 'it returns false'. Refute it at one input. -/
def hashSlotWrong : ChangeSpec := { name := "hashSlot", fn := fun _ => fun
  | [d1, d2] => { results := [.lit (.bool false)], args := [d1, d2] }
  | _ => none }
def HashSlotWrongFalsely : Prop := hashSlotRow.holds Try.pinned (OpenSpec.ofChange hashSlotWrong)

/-- 'heavykeyslaw07.HashEnds': WHATEVER THE INPUT: true; the input reads as it did. -/
def hashEndsSpec : ChangeSpec := { name := "hashEnds", fn := fun _ => fun
  | [d1, d2, d3] => { results := [.lit (.bool true)], args := [d1, d2, d3] }
  | _ => none }
def hashEndsRow : OpenClaim := { program := "ytnmhgbdmjgejfaa", sum := "3a2179dd95f16373ad63b033ac1d686602c65030ccd624b9e10f6d592b336f42", func := "heavykeys/heavykeyslaw07.HashEnds", spec := "hashEnds", apart := false }
def HashEndsSaid : Prop := hashEndsRow.holds Try.pinned (OpenSpec.ofChange hashEndsSpec)

/-- ITS FALSE NEIGHBOUR: 'it returns false'. Refute it at one input. -/
def hashEndsWrong : ChangeSpec := { name := "hashEnds", fn := fun _ => fun
  | [d1, d2, d3] => { results := [.lit (.bool false)], args := [d1, d2, d3] }
  | _ => none }
def HashEndsWrongFalsely : Prop := hashEndsRow.holds Try.pinned (OpenSpec.ofChange hashEndsWrong)

/- THE SECOND FORM. 'bulk': how many values and letters a reading holds, each counted each time it is reached (what is shared counts as often as it is met; a slice's spare places count too). A statement '..UptoSaid' is the law's where the arguments, and the package variables that the reading takes, are together of bulk at most 1048576: NARROWER than '..Said'. Prove '..Said' where nothing that the law and all that it calls make is longer than what came in: it says more and counts as full. Else prove '..UptoSaid'. A law counts once. -/
mutual
def uptoBulk {H : Type} : DataW H → Nat
  | .lit (.string bytes) => bytes.length + 1
  | .lit _ => 1
  | .nil => 1
  | .ptr d => uptoBulk d + 1
  | .slice elems spare => uptoBulkAll elems + uptoBulkAll spare + 1
  | .agg parts => uptoBulkAll parts + 1
  | .iface _ d => uptoBulk d + 1
  | .map entries => uptoBulkEntries entries + 1
  | .held _ => 1
def uptoBulkAll {H : Type} : List (DataW H) → Nat
  | [] => 0
  | d :: r => uptoBulk d + uptoBulkAll r
def uptoBulkEntries {H : Type} : List (Lit × DataW H) → Nat
  | [] => 0
  | x :: r => uptoBulkEntry x + uptoBulkEntries r
def uptoBulkEntry {H : Type} : Lit × DataW H → Nat
  | (.string bytes, d) => bytes.length + uptoBulk d + 1
  | (_, d) => uptoBulk d + 1
 end
def uptoSmall : (H : Type) → List (DataW H) → Bool := fun _ ds => decide (uptoBulkAll ds ≤ 1048576)
def OpenSpec.upto (s : _root_.Go.ChangeSpec) : _root_.Go.OpenSpec := { _root_.Go.OpenSpec.ofChange s with cond := some uptoSmall }

/-- 'heavykeyslaw07.HashKey', WHERE WHAT IT READS IS OF BULK AT MOST 1048576: true; the input reads as it did. -/
def hashKeyUptoRow : OpenClaim := { program := "ytnmhgbdmjgejfaa", sum := "3a2179dd95f16373ad63b033ac1d686602c65030ccd624b9e10f6d592b336f42", func := "heavykeys/heavykeyslaw07.HashKey", spec := "hashKey", apart := false, narrowed := true }
def HashKeyUptoSaid : Prop := hashKeyUptoRow.holds Try.pinned (OpenSpec.upto hashKeySpec)

/-- 'heavykeyslaw07.HashRow', WHERE WHAT IT READS IS OF BULK AT MOST 1048576: true; the input reads as it did. -/
def hashRowUptoRow : OpenClaim := { program := "ytnmhgbdmjgejfaa", sum := "3a2179dd95f16373ad63b033ac1d686602c65030ccd624b9e10f6d592b336f42", func := "heavykeys/heavykeyslaw07.HashRow", spec := "hashRow", apart := false, narrowed := true }
def HashRowUptoSaid : Prop := hashRowUptoRow.holds Try.pinned (OpenSpec.upto hashRowSpec)

/-- 'heavykeyslaw07.HashSlot', WHERE WHAT IT READS IS OF BULK AT MOST 1048576: true; the input reads as it did. -/
def hashSlotUptoRow : OpenClaim := { program := "ytnmhgbdmjgejfaa", sum := "3a2179dd95f16373ad63b033ac1d686602c65030ccd624b9e10f6d592b336f42", func := "heavykeys/heavykeyslaw07.HashSlot", spec := "hashSlot", apart := false, narrowed := true }
def HashSlotUptoSaid : Prop := hashSlotUptoRow.holds Try.pinned (OpenSpec.upto hashSlotSpec)

/-- 'heavykeyslaw07.HashEnds', WHERE WHAT IT READS IS OF BULK AT MOST 1048576: true; the input reads as it did. -/
def hashEndsUptoRow : OpenClaim := { program := "ytnmhgbdmjgejfaa", sum := "3a2179dd95f16373ad63b033ac1d686602c65030ccd624b9e10f6d592b336f42", func := "heavykeys/heavykeyslaw07.HashEnds", spec := "hashEnds", apart := false, narrowed := true }
def HashEndsUptoSaid : Prop := hashEndsUptoRow.holds Try.pinned (OpenSpec.upto hashEndsSpec)

end Rows
end Go.Proofs.Ytnmhgbdmjgejfaa
