/- The statements about package saving: awake, weight. Conditions: the program's tables keep their contracts (ProgT). -/
import Derived.Test.YtlfhkhnhcckajaaGreatDoorZ09
import Derived.Test.YtlfhkhnhcckajaaGreatDoorZ06
namespace Go.Proofs.YtlfhkhnhcckajaaGreatDoor
open Go.ChangeShapes Go.WideShapes Go.ChangeAt Go.RowKit
set_option linter.unusedVariables false
set_option linter.unusedSimpArgs false
set_option maxRecDepth 100000

/-- The chapter's example. -/
def sx1 : TSt := ⟨2, [(⟨#[97]⟩, 5, 0)], 0, 5⟩
def sx2 : TSt := ⟨2, [(⟨#[97]⟩, 5, 0), (⟨#[98]⟩, 3, 0)], 0, 8⟩
def sx3 : TSt := ⟨2, [(⟨#[97]⟩, 5, 0), (⟨#[99]⟩, 1, 3)], 3, 9⟩
def sx4 : TSt := ⟨2, [(⟨#[97]⟩, 5, 0)], 3, 9⟩
def sx5 : TSt := ⟨2, [(⟨#[97]⟩, 5, 0), (⟨#[100]⟩, 2, 3)], 3, 11⟩
theorem ex_s1 : (newT 2).addS ⟨#[97]⟩ 5 = (0, sx1) := by kernel_rfl
theorem ex_s2 : sx1.addS ⟨#[98]⟩ 3 = (0, sx2) := by kernel_rfl
theorem ex_s3 : sx2.addS ⟨#[99]⟩ 1 = (0, sx3) := by kernel_rfl
theorem ex_s4 : sx3.get ⟨#[99]⟩ = (((⟨#[99]⟩, 1, 3) : En), true) ∧ sx3.take ⟨#[99]⟩ = sx4 := ⟨by kernel_rfl, by kernel_rfl⟩
theorem ex_s5 : sx4.addS ⟨#[100]⟩ 2 = (0, sx5) := by kernel_rfl
theorem ex_s6 : sx5.get ⟨#[100]⟩ = (((⟨#[100]⟩, 2, 3) : En), true) ∧ sx5.base = 3 := ⟨by kernel_rfl, rfl⟩
theorem sz1 (a : UInt8) : Sz ⟨#[a]⟩ := by unfold Sz; exact Nat.le_of_lt_succ (by simp [ByteArray.size])
set_option maxHeartbeats 4000000 in
theorem sawake_any {PT : RepT} (HP : ProgTh PT) (w : World) (hTab : Tab w) : Calls Tryz.prog 17 #[] w fun e w' => e = .returned (.bool true) ∧ Below w.heap.size w w' := by
  have hS0 := Since.start w
  have hN := HP.new (k := 16) hS0.tidy (hS0.tb hTab) (by omega) 2 (by simp [J64])
  go_enter Tryz.func17, Tryz.ntmps17
  go_wp2_with fail
  refine hN.mono ?_
  rintro e w2 (⟨_, g, rfl, col2, p2, s2⟩ | ⟨h0, _⟩)
  rotate_left
  · exact absurd h0 (show ¬ svE 2 = 1 by decide)
  have A2 : AtT PT w col2 w2 16 g (newT 2) := ⟨hS0.step s2 (rng0 (by omega)), p2⟩
  clear hS0 s2 p2 hN
  have hC := HP.add A2.pt A2.tidy ⟨#[97]⟩ 5 (sz1 _) (by simp [W64])
  rw [ex_s1] at hC
  go_wp2_with fail
  refine hC.mono ?_
  rintro e w3 ⟨rfl, hd⟩
  obtain ⟨col3, A3⟩ := A2.did (by omega) hd
  clear A2 hd hC
  have hC := HP.add A3.pt A3.tidy ⟨#[98]⟩ 3 (sz1 _) (by simp [W64])
  rw [ex_s2] at hC
  go_wp2_with fail
  refine hC.mono ?_
  rintro e w4 ⟨rfl, hd⟩
  obtain ⟨col4, A4⟩ := A3.did (by omega) hd
  clear A3 hd hC
  have hC := HP.add A4.pt A4.tidy ⟨#[99]⟩ 1 (sz1 _) (by simp [W64])
  rw [ex_s3] at hC
  go_wp2_with fail
  refine hC.mono ?_
  rintro e w5 ⟨rfl, hd⟩
  obtain ⟨col5, A5⟩ := A4.did (by omega) hd
  clear A4 hd hC
  have hC := HP.take A5.pt A5.tidy ⟨#[99]⟩ (sz1 _)
  rw [ex_s4.1, ex_s4.2] at hC
  go_wp2_with fail
  refine hC.mono ?_
  rintro e w6 ⟨rfl, hd⟩
  obtain ⟨col6, A6⟩ := A5.did (by omega) hd
  clear A5 hd hC
  have b7 : Below w6.heap.size w6 (w6.alloc (.cells (VE (⟨#[99]⟩, 1, 3)) 32)) := (Below.refl _ _).alloc (Nat.le_refl _) _
  have A7 := A6.below HP b7
  have X7 : BoxC col6 (w6.alloc (.cells (VE (⟨#[99]⟩, 1, 3)) 32)) w6.heap.size 0 (VE (⟨#[99]⟩, 1, 3)) 32 := ⟨heap_alloc_new w6 _, A6.tidy _ (Nat.le_refl _)⟩
  have hC := HP.add A7.pt A7.tidy ⟨#[100]⟩ 2 (sz1 _) (by simp [W64])
  rw [ex_s5] at hC
  clear A6 b7
  go_wp2_with fail
  refine hC.mono ?_
  rintro e w8 ⟨rfl, col8, p8, s8⟩
  have A8 : AtT PT w col8 w8 16 g sx5 := ⟨A7.since.step s8 (rng0 (by omega)), p8⟩
  have X8 := X7.keep s8 (rng0 (by omega))
  clear A7 X7 p8 s8 hC
  have hC := HP.get A8.pt A8.tidy ⟨#[100]⟩ (sz1 _)
  rw [ex_s6.1] at hC
  go_wp2_with fail
  refine hC.mono ?_
  rintro e w9 ⟨rfl, b9⟩
  have b10 : Below w8.heap.size w8 (w9.alloc (.cells (VE (⟨#[100]⟩, 2, 3)) 32)) := b9.alloc b9.size _
  have A10 := A8.below HP b10
  have X10 := X8.keep (P := fun _ => False) (StepC.below A8.tidy b10) (fun h => h)
  have hU := HP.untr A10.pt A10.tidy
  rw [ex_s6.2] at hU
  have v0 : (w9.alloc (.cells (VE (⟨#[100]⟩, 2, 3)) 32)).cell? ⟨w9.heap.size, 0, none⟩ = some (.string ⟨#[100]⟩) := (World.cell?_alloc_at (w := w9) _ _ _ _ rfl).trans rfl
  have v1 : (w9.alloc (.cells (VE (⟨#[100]⟩, 2, 3)) 32)).cell? ⟨w9.heap.size, 1, none⟩ = some (.int .u64 2) := (World.cell?_alloc_at (w := w9) _ _ _ _ rfl).trans rfl
  have v2 : (w9.alloc (.cells (VE (⟨#[100]⟩, 2, 3)) 32)).cell? ⟨w9.heap.size, 2, none⟩ = some (.int .u64 3) := (World.cell?_alloc_at (w := w9) _ _ _ _ rfl).trans rfl
  have y0 : (w9.alloc (.cells (VE (⟨#[100]⟩, 2, 3)) 32)).cell? ⟨w6.heap.size, 0, none⟩ = some (.string ⟨#[99]⟩) := X10.cell 0 rfl
  have y1 : (w9.alloc (.cells (VE (⟨#[100]⟩, 2, 3)) 32)).cell? ⟨w6.heap.size, 1, none⟩ = some (.int .u64 1) := X10.cell 1 rfl
  have y2 : (w9.alloc (.cells (VE (⟨#[100]⟩, 2, 3)) 32)).cell? ⟨w6.heap.size, 2, none⟩ = some (.int .u64 3) := X10.cell 2 rfl
  have hQ1 := eqIn_entry ⟨#[99]⟩ ⟨#[99]⟩ 1 1 3 3
  have hQ2 := eqIn_entry ⟨#[100]⟩ ⟨#[100]⟩ 2 2 3 3
  rw [decide_eq_true rfl] at hQ1 hQ2
  clear A8 X8 X10 b9 b10 hC
  go_wp2_with fail
  refine hU.mono ?_
  rintro e w11 ⟨rfl, b11⟩
  have hb := (A10.below HP b11).since.below
  clear A10 hU b11
  go_wp2
  go_ret
  exact ⟨rfl, hb⟩
/-- A weight that the statement draws: the same at every call. -/
theorem weigh_any (s raw : Int) (hs : J64 s) (hr : W64 raw) : ∃ x : Int, W64 x ∧ ∀ w : World, Calls Tryz.prog 20 #[.int .i64 s, .int .u64 raw] w fun e w' => e = .returned (.int .u64 x) ∧ w' = w := by
  obtain ⟨hs0, hs1⟩ := hs
  obtain ⟨X, hXm, hX⟩ := mask_any (s / 1024) 15 (by omega)
  have hX' : bits .and .i64 (s / 1024) 15 = (X : Int) := hX
  obtain ⟨Y, hYm, hY⟩ := mask_any (s / 1024) 7 (by omega)
  have hY' : bits .and .i64 (s / 1024) 7 = (Y : Int) := hY
  obtain ⟨Z, hZ⟩ : ∃ Z : Nat, 1 + Y = Z := ⟨_, rfl⟩
  have hw1 : IntKind.i64.wrap (1 + (Y : Int)) = (Z : Int) := by rw [IntKind.wrap_i64]; omega
  have hYw : IntKind.u64.wrap (Z : Int) = (Z : Int) := IntWalk.u64_in _ ⟨by omega, by omega⟩
  have hUY := Lib.hid (show W64 (Z : Int) by unfold W64; omega)
  clear hX hY hZ
  by_cases h0 : X = 0
  · refine ⟨raw, hr, fun w => ?_⟩
    have e0 : ((X : Int) == 0) = true := beq_iff_eq.2 (by omega)
    subst h0
    go_enter Tryz.func20, Tryz.ntmps20
    go_wp2
    go_ret
    exact ⟨rfl, rfl⟩
  · refine ⟨(Z : Int), hUY.out, fun w => ?_⟩
    have e0 : ((X : Int) == 0) = false := beq_false_of_ne (by omega)
    clear hr hUY
    go_enter Tryz.func20, Tryz.ntmps20
    go_wp2
    go_ret
    exact ⟨rfl, rfl⟩
end Go.Proofs.YtlfhkhnhcckajaaGreatDoor
