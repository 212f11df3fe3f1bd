/- z & m for any number z: from 0 to m. Conditions: none beyond those typed. -/
import Derived.Test.YtbdafhephmoedaaBase
namespace Go.Proofs.Ytbdafhephmoedaa
open Go.ChangeShapes Go.WideShapes Go.ChangeAt Go.RowKit
theorem mask_any (z : Int) (m : Nat) (hm : m < 4611686018427387904) : ∃ x : Nat, x ≤ m ∧ bits .and .i64 z (m : Int) = (x : Int) := by
  refine ⟨(BitVec.ofInt 64 z &&& BitVec.ofInt 64 (m : Int)).toNat, ?_, ?_⟩
  · rw [BitVec.toNat_and]
    refine Nat.le_trans Nat.and_le_right ?_
    rw [BitVec.ofInt_natCast, BitVec.toNat_ofNat]
    exact Nat.mod_le _ _
  · have h : (BitVec.ofInt 64 z &&& BitVec.ofInt 64 (m : Int)).toNat ≤ m := by
      rw [BitVec.toNat_and]
      refine Nat.le_trans Nat.and_le_right ?_
      rw [BitVec.ofInt_natCast, BitVec.toNat_ofNat]
      exact Nat.mod_le _ _
    show IntKind.i64.wrap ((BitVec.ofInt 64 z &&& BitVec.ofInt 64 (m : Int)).toNat : Int) = _
    exact IntWalk.i64_in _ (by omega)
end Go.Proofs.Ytbdafhephmoedaa
