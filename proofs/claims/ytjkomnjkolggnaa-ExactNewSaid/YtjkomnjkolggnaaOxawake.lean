/- The statements about package exact: awake. Conditions: the program's stores keep their contracts (ProgX). -/
import Derived.Test.YtjkomnjkolggnaaExprog
import Derived.Test.YtjkomnjkolggnaaSvdeck
import Derived.Test.YtjkomnjkolggnaaKmask
namespace Go.Proofs.Ytjkomnjkolggnaa
open Go.ChangeShapes Go.WideShapes Go.ChangeAt Go.RowKit
set_option linter.unusedVariables false
set_option linter.unusedSimpArgs false
set_option maxRecDepth 100000

/-- The chapter's example. -/
def xx1 : ExSt := ⟨3, [(⟨#[97]⟩, 5, 1)]⟩
def xx2 : ExSt := ⟨3, [(⟨#[97]⟩, 5, 1), (⟨#[98]⟩, 4, 2)]⟩
def xx3 : ExSt := ⟨3, [(⟨#[97]⟩, 5, 1), (⟨#[98]⟩, 5, 2)]⟩
theorem ex_x1 : (newX 3).put (⟨#[97]⟩, 5, 1) = (0, xx1) := by kernel_rfl
theorem ex_x2 : xx1.put (⟨#[98]⟩, 4, 2) = (0, xx2) := by kernel_rfl
theorem ex_x3 : xx2.least = (((⟨#[98]⟩, 4, 2) : En), true) := by kernel_rfl
theorem ex_x4 : xx2.add ⟨#[98]⟩ 1 = (0, xx3) := by kernel_rfl
theorem ex_x5 : xx3.least = (((⟨#[97]⟩, 5, 1) : En), true) := by kernel_rfl
theorem szx (a : UInt8) : Sz ⟨#[a]⟩ := by unfold Sz; exact Nat.le_of_lt_succ (by simp [ByteArray.size])
set_option maxHeartbeats 4000000 in
theorem xawake_any {PX : RepX} (HP : ProgX PX) (w : World) : Calls Try.prog 16 #[] w fun e w' => e = .returned (.bool true) ∧ Below w.heap.size w w' := by
  have hS0 := Since.start w
  have hN := HP.new (k := 16) hS0.tidy (by omega) 3 (by simp [J64])
  go_enter Try.func16, Try.ntmps16
  go_wp2_with fail
  refine hN.mono ?_
  rintro e w2 (⟨_, g, rfl, col2, p2, s2⟩ | ⟨h0, _⟩)
  rotate_left
  · exact absurd h0 (show ¬ xsE 3 = 1 by decide)
  have A2 : AtX PX w col2 w2 16 g (newX 3) := ⟨hS0.step s2 (rng0 (by omega)), p2⟩
  clear hS0 s2 p2 hN
  have hC := HP.put A2.px A2.tidy (⟨#[97]⟩, 5, 1) (szx _) (by simp [W64]) (by simp [W64])
  rw [ex_x1] at hC
  go_wp2_with fail
  refine hC.mono ?_
  rintro e w3 ⟨rfl, hd⟩
  obtain ⟨col3, A3⟩ := A2.did (by omega) hd
  clear A2 hd hC
  have hC := HP.put A3.px A3.tidy (⟨#[98]⟩, 4, 2) (szx _) (by simp [W64]) (by simp [W64])
  rw [ex_x2] at hC
  go_wp2_with fail
  refine hC.mono ?_
  rintro e w4 ⟨rfl, hd⟩
  obtain ⟨col4, A4⟩ := A3.did (by omega) hd
  clear A3 hd hC
  have hC := HP.least A4.px A4.tidy
  rw [ex_x3] at hC
  go_wp2_with fail
  refine hC.mono ?_
  rintro e w6 ⟨rfl, hb6⟩
  have b7 : Below w4.heap.size w4 (w6.alloc (.cells (VE (⟨#[98]⟩, 4, 2)) 32)) := hb6.alloc hb6.size _
  have A7 := A4.below HP b7
  have X7 : BoxC col4 (w6.alloc (.cells (VE (⟨#[98]⟩, 4, 2)) 32)) w6.heap.size 0 (VE (⟨#[98]⟩, 4, 2)) 32 := ⟨heap_alloc_new w6 _, (A4.tidy.size hb6.size) _ (Nat.le_refl _)⟩
  have hC := HP.add A7.px A7.tidy ⟨#[98]⟩ 1 (szx _) (by simp [W64])
  rw [ex_x4] at hC
  clear A4 b7 hb6
  go_wp2_with fail
  refine hC.mono ?_
  rintro e w8 ⟨rfl, col8, p8, s8⟩
  have A8 : AtX PX w col8 w8 16 g xx3 := ⟨A7.since.step s8 (rng0 (by omega)), p8⟩
  have X8 := X7.keep s8 (rng0 (by omega))
  clear A7 X7 p8 s8 hC
  have hC := HP.least A8.px A8.tidy
  rw [ex_x5] at hC
  go_wp2_with fail
  refine hC.mono ?_
  rintro e w9 ⟨rfl, b9⟩
  have b10 : Below w8.heap.size w8 (w9.alloc (.cells (VE (⟨#[97]⟩, 5, 1)) 32)) := b9.alloc b9.size _
  have X10 := X8.keep (P := fun _ => False) (StepC.below A8.tidy b10) (fun h => h)
  have v0 : (w9.alloc (.cells (VE (⟨#[97]⟩, 5, 1)) 32)).cell? ⟨w9.heap.size, 0, none⟩ = some (.string ⟨#[97]⟩) := (World.cell?_alloc_at (w := w9) _ _ _ _ rfl).trans rfl
  have v1 : (w9.alloc (.cells (VE (⟨#[97]⟩, 5, 1)) 32)).cell? ⟨w9.heap.size, 1, none⟩ = some (.int .u64 5) := (World.cell?_alloc_at (w := w9) _ _ _ _ rfl).trans rfl
  have v2 : (w9.alloc (.cells (VE (⟨#[97]⟩, 5, 1)) 32)).cell? ⟨w9.heap.size, 2, none⟩ = some (.int .u64 1) := (World.cell?_alloc_at (w := w9) _ _ _ _ rfl).trans rfl
  have y0 : (w9.alloc (.cells (VE (⟨#[97]⟩, 5, 1)) 32)).cell? ⟨w6.heap.size, 0, none⟩ = some (.string ⟨#[98]⟩) := X10.cell 0 rfl
  have hQ2 := eqIn_entry ⟨#[97]⟩ ⟨#[97]⟩ 5 5 1 1
  rw [decide_eq_true rfl] at hQ2
  have hb := (A8.below HP b10).since.below
  clear A8 X8 X10 b9 b10 hC
  go_wp2
  go_ret
  exact ⟨rfl, hb⟩
end Go.Proofs.Ytjkomnjkolggnaa
