/- Deck.Short: a short text of a deck's making. Conditions: none beyond those typed. -/
import Derived.Test.YtbdafhephmoedaaEdeck
import Derived.Test.YtbdafhephmoedaaTm
import Derived.Deep.RegionLaw
namespace Go.Proofs.Ytbdafhephmoedaa
open Go.ChangeShapes Go.WideShapes Go.ChangeAt Go.RowKit
set_option linter.unusedVariables false
set_option linter.unusedSimpArgs false
set_option maxRecDepth 100000

/-- A short text comes back, and the deck; nothing else has turned. -/
def ShortDk (B : World) (g : Nat) (A : Option Addr) (n c : Nat) (W : World) (e : Ending) (W' : World) : Prop :=
  ∃ s : ByteArray, (2 ≤ s.size ∧ s.size ≤ 3) ∧ e = .returned (.string s) ∧ Dk B W' g A n c ∧ W.grownBy W' (some g)
theorem short_j {r : Nat} (h : (r : Int) < 2) : ∃ j : Nat, IntKind.i64.wrap (1 + (r : Int)) = (j : Int) ∧ IntKind.i64.wrap (j : Int) = (j : Int) ∧ (0 ≤ (j : Int) ∧ (j : Int) ≤ ((⟨#[97, 98, 99, 100, 101, 102, 103, 104]⟩ : ByteArray).size : Int)) ∧ ((j : Int) ≤ 8 ∧ j ≤ 8) ∧ RowKit.Hid (1 ≤ j ∧ j ≤ 2) := by
  have e : ((⟨#[97, 98, 99, 100, 101, 102, 103, 104]⟩ : ByteArray).size : Int) = 8 := rfl
  rw [e]
  obtain rfl | rfl : r = 0 ∨ r = 1 := by omega
  · exact ⟨1, by decide, by decide, by omega, by omega, Lib.hid ⟨by omega, by omega⟩⟩
  · exact ⟨2, by decide, by decide, by omega, by omega, Lib.hid ⟨by omega, by omega⟩⟩
theorem short_k {r : Nat} (h : (r : Int) < 5) : ∃ j : Nat, IntKind.i64.wrap (97 + (r : Int)) = (j : Int) ∧ IntKind.i64.wrap (j : Int) = (j : Int) ∧ IntKind.u8.wrap (j : Int) = (j : Int) ∧ RowKit.Hid (j ≤ 255) := by
  obtain rfl | rfl | rfl | rfl | rfl : r = 0 ∨ r = 1 ∨ r = 2 ∨ r = 3 ∨ r = 4 := by omega
  · exact ⟨97, by decide, by decide, by decide, Lib.hid (by omega)⟩
  · exact ⟨98, by decide, by decide, by decide, Lib.hid (by omega)⟩
  · exact ⟨99, by decide, by decide, by decide, Lib.hid (by omega)⟩
  · exact ⟨100, by decide, by decide, by decide, Lib.hid (by omega)⟩
  · exact ⟨101, by decide, by decide, by decide, Lib.hid (by omega)⟩
theorem short_sz {j i : Nat} (h : 1 ≤ j ∧ j ≤ 2) : ¬ 9223372036854775807 < ((⟨#[97, 98, 99, 100, 101, 102, 103, 104]⟩ : ByteArray).extract 0 j).size + (chr i).size := by
  have := chr_size i
  have : ((⟨#[97, 98, 99, 100, 101, 102, 103, 104]⟩ : ByteArray).extract 0 j).size = min j 8 - 0 := ByteArray.size_extract
  omega
theorem short_two {j i : Nat} (h : 1 ≤ j ∧ j ≤ 2) : 2 ≤ (((⟨#[97, 98, 99, 100, 101, 102, 103, 104]⟩ : ByteArray).extract 0 j) ++ (chr i)).size ∧ (((⟨#[97, 98, 99, 100, 101, 102, 103, 104]⟩ : ByteArray).extract 0 j) ++ (chr i)).size ≤ 3 := by
  rw [ba_append_size]
  have : (chr i).size = 1 := rfl
  have : ((⟨#[97, 98, 99, 100, 101, 102, 103, 104]⟩ : ByteArray).extract 0 j).size = min j 8 - 0 := ByteArray.size_extract
  omega
theorem short_conv {j : Nat} (h : j ≤ 255) (w : World) : (convert 58 9 (.slice (some ⟨w.heap.size, 0, none⟩) 1 1)).run Try.prog (w.alloc (.cells #[.int .u8 (j : Int)] 5)) = .ok (.string (chr j)) (w.alloc (.cells #[.int .u8 (j : Int)] 5)) :=
  conv_one _ _ j h (by simp)
theorem grow_row {w w' : World} {row : Option Nat} (h : w.grownBy w' none) : w.grownBy w' row := ⟨h.os, h.tape, h.output, h.size, fun k hk _ => h.block k hk (by simp)⟩
set_option maxHeartbeats 1000000 in
theorem short_dk {B W : World} {g n c : Nat} {A : Option Addr} (h : Dk B W g A n c) : Calls Try.prog 26 #[.pointer (some ⟨g, 0, none⟩)] W (ShortDk B g A n c W) := by
  have hB := h.drewN 1
  have hG : W.grownBy (W.drewN 1) none := grow_drewN (World.grownBy.refl W none) 1
  go_enter Try.func26, Try.ntmps26
  go_wp2_with fail
  go_region_with (first | (refine (next_dk h1 5 (by omega) (by omega)).mono ?_; rintro e W2 ⟨r2, hr2, rfl, h2, g2⟩; obtain ⟨j2, b1, b2, b3, B1⟩ := short_k hr2; have b4 := short_conv B1.out; have b5 := chr_size j2; have b6 : ¬ 9223372036854775807 < ((⟨#[97, 98, 99, 100, 101, 102, 103, 104]⟩ : ByteArray).extract 0 j1).size + (chr j2).size := short_sz A1.out; clear hr2) | (refine (next_dk hB 2 (by omega) (by omega)).mono ?_; rintro e W1 ⟨r1, hr1, rfl, h1, g1⟩; obtain ⟨j1, a1, a2, a3, ⟨a4, a5⟩, A1⟩ := short_j hr1; clear hr1))
  all_goals go_wp2
  all_goals go_ret
  all_goals
    have hal := (World.grownBy_alloc W2 (.cells #[.int .u8 (j2 : Int)] 5) (some g))
    exact ⟨_, short_two A1.out, rfl, h2.alloc _, ((grow_row hG).trans g1).trans (g2.trans hal)⟩
end Go.Proofs.Ytbdafhephmoedaa
