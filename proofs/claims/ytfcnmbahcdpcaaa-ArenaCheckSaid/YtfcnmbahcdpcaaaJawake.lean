/- The statements about package arena: awake. Conditions: the program's arena keeps its contracts (ProgA). -/
import Derived.Test.YtfcnmbahcdpcaaaAprog
namespace Go.Proofs.Ytfcnmbahcdpcaaa
open Go.ChangeShapes Go.WideShapes Go.ChangeAt Go.RowKit
set_option linter.unusedVariables false
set_option linter.unusedSimpArgs false
set_option maxRecDepth 100000

def exL : List (Int × Int) := [(16, 2), (64, 1)]
def ex0 : ASt := newA exL
def ex1 : ASt := (ex0.alloc 10).2
def ex2 : ASt := (ex1.alloc 16).2
def ex3 : ASt := (ex2.alloc 1).2
def ex4 : ASt := (ex3.free (0, 0, 1)).2
def ex5 : ASt := (ex4.alloc 5).2
def ex6 : ASt := (ex5.free (0, 0, 1)).2
theorem ex_c : clsE exL = 0 := by decide +kernel
theorem ex_1 : (ex0.alloc 10).1 = ((0, 0, 1), 0) := by decide +kernel
theorem ex_2 : (ex1.alloc 16).1 = ((0, 1, 1), 0) := by decide +kernel
theorem ex_3 : (ex2.alloc 1).1 = ((0, 0, 0), 7) := by decide +kernel
theorem ex_4 : (ex3.free (0, 0, 1)).1 = 0 := by decide +kernel
theorem ex_5 : (ex4.alloc 5).1 = ((0, 0, 2), 0) := by decide +kernel
theorem ex_6 : (ex5.free (0, 0, 1)).1 = 9 := by decide +kernel
theorem ex_f : ex6.fa = 1 := by decide +kernel
theorem ex_t : ex0.t ≤ 1000000000 ∧ ex1.t ≤ 1000000000 ∧ ex2.t ≤ 1000000000 ∧ ex3.t ≤ 1000000000 ∧ ex4.t ≤ 1000000000 ∧ ex5.t ≤ 1000000000 ∧ ex6.t ≤ 1000000000 := by decide +kernel
theorem ex_bd : ∀ x ∈ exL, I64 x.1 ∧ I64 x.2 := by intro x hx; simp [exL] at hx; rcases hx with rfl | rfl <;> simp [I64]
set_option maxHeartbeats 2000000 in
theorem awake_any {PA : Rep} (HP : ProgA PA) (w : World) : Calls Try.prog 8 #[] w (Yes w) := by
  have hs0 := Since.start w
  have hb1 : Below w.heap.size w (w.alloc (.cells #[.int .i64 16, .int .i64 2, .int .i64 64, .int .i64 1] 37)) := (Below.refl _ _).alloc (Nat.le_refl _) _
  have S1 := hs0.below' hb1
  have R1 : RdG kC (w.alloc (.cells #[.int .i64 16, .int .i64 2, .int .i64 64, .int .i64 1] 37)) (some ⟨w.heap.size, 0, none⟩) 2 2 exL := RdG.lit kC w exL rfl (by simp [exL, maxLen]) _
  obtain ⟨t0, t1, t2, t3, t4, t5, t6⟩ := ex_t
  go_enter Try.func8, Try.ntmps8
  go_wp2_with fail
  refine (HP.new (k := 16) S1.tidy (by omega) R1 (by omega) ex_bd).mono ?_
  rintro e w2 (⟨_, g, rfl, hd⟩ | ⟨h0, _⟩)
  rotate_left
  · exact absurd ex_c h0
  obtain ⟨col2, h2, s2⟩ := hd
  have A2 : AtP PA w col2 w2 16 g ex0 := ⟨S1.step s2 (rng0 (by omega)), h2⟩
  clear h2 s2 S1 R1 hb1 hs0
  go_wp2_with fail
  refine (HP.alloc A2.pa A2.tidy t0 10 (by simp [I64])).mono ?_
  rintro e w3 ⟨rfl, hd⟩
  rw [ex_1]
  obtain ⟨col3, A3, _⟩ := A2.did (by omega) hd
  have A3 : AtP PA w col3 w3 16 g ex1 := A3
  obtain ⟨A3, B3⟩ := A3.lit HP #[.int .i64 0, .int .i64 0, .int .i64 1] 40
  clear A2 hd
  go_wp2_with fail
  refine (HP.alloc A3.pa A3.tidy t1 16 (by simp [I64])).mono ?_
  rintro e w4 ⟨rfl, hd⟩
  rw [ex_2]
  obtain ⟨col4, A4, s4⟩ := A3.did (by omega) hd
  have A4 : AtP PA w col4 w4 16 g ex2 := A4
  have B3 := (B3.keep s4 (rng0 (by omega))).below A4.tidy ((Below.refl _ _).alloc (Nat.le_refl _) (.cells #[.int .i64 0, .int .i64 1, .int .i64 1] 40))
  obtain ⟨A4, B4⟩ := A4.lit HP #[.int .i64 0, .int .i64 1, .int .i64 1] 40
  clear A3 hd s4
  go_wp2_with fail
  refine (HP.alloc A4.pa A4.tidy t2 1 (by simp [I64])).mono ?_
  rintro e w5 ⟨rfl, hd⟩
  rw [ex_3]
  obtain ⟨col5, A5, s5⟩ := A4.did (by omega) hd
  have A5 : AtP PA w col5 w5 16 g ex3 := A5
  have b5 : Below w5.heap.size w5 (w5.alloc (.cells #[.int .i64 0, .int .i64 0, .int .i64 0] 40)) := (Below.refl _ _).alloc (Nat.le_refl _) _
  have B3 := (B3.keep s5 (rng0 (by omega))).below A5.tidy b5
  have B4 := (B4.keep s5 (rng0 (by omega))).below A5.tidy b5
  have A5 := A5.below HP b5
  clear A4 hd s5 b5
  have e0 := B3.cell 0 rfl
  have e1 := B3.cell 1 rfl
  have e2 := B3.cell 2 rfl
  go_wp2_with fail
  refine (HP.free A5.pa A5.tidy t3 (0, 0, 1) (by simp [I64, Hd64])).mono ?_
  rintro e w6 ⟨rfl, hd⟩
  rw [ex_4]
  obtain ⟨col6, A6, s6⟩ := A5.did (by omega) hd
  have A6 : AtP PA w col6 w6 16 g ex4 := A6
  have B3 := B3.keep s6 (rng0 (by omega))
  have B4 := B4.keep s6 (rng0 (by omega))
  clear A5 hd s6 e0 e1 e2
  go_wp2_with fail
  refine (HP.alloc A6.pa A6.tidy t4 5 (by simp [I64])).mono ?_
  rintro e w7 ⟨rfl, hd⟩
  rw [ex_5]
  obtain ⟨col7, A7, s7⟩ := A6.did (by omega) hd
  have A7 : AtP PA w col7 w7 16 g ex5 := A7
  have b7 : Below w7.heap.size w7 (w7.alloc (.cells #[.int .i64 0, .int .i64 0, .int .i64 2] 40)) := (Below.refl _ _).alloc (Nat.le_refl _) _
  have B3 := (B3.keep s7 (rng0 (by omega))).below A7.tidy b7
  have B4 := (B4.keep s7 (rng0 (by omega))).below A7.tidy b7
  obtain ⟨A7, B7⟩ := A7.lit HP #[.int .i64 0, .int .i64 0, .int .i64 2] 40
  clear A6 hd s7 b7
  have hQ1 := fun w => eqIn_h 0 0 1 0 0 1 w
  have hQ2 := fun w => eqIn_h 0 1 1 0 1 1 w
  have hQ3 := fun w => eqIn_h 0 0 2 0 0 2 w
  rw [decide_eq_true rfl] at hQ1 hQ2 hQ3
  have e0 : (w7.alloc (.cells #[.int .i64 0, .int .i64 0, .int .i64 2] 40)).cell? ⟨w3.heap.size, 0, none⟩ = some (.int .i64 0) := B3.cell 0 rfl
  have e1 : (w7.alloc (.cells #[.int .i64 0, .int .i64 0, .int .i64 2] 40)).cell? ⟨w3.heap.size, 1, none⟩ = some (.int .i64 0) := B3.cell 1 rfl
  have e2 : (w7.alloc (.cells #[.int .i64 0, .int .i64 0, .int .i64 2] 40)).cell? ⟨w3.heap.size, 2, none⟩ = some (.int .i64 1) := B3.cell 2 rfl
  have d0 : (w7.alloc (.cells #[.int .i64 0, .int .i64 0, .int .i64 2] 40)).cell? ⟨w4.heap.size, 0, none⟩ = some (.int .i64 0) := B4.cell 0 rfl
  have d1 : (w7.alloc (.cells #[.int .i64 0, .int .i64 0, .int .i64 2] 40)).cell? ⟨w4.heap.size, 1, none⟩ = some (.int .i64 1) := B4.cell 1 rfl
  have d2 : (w7.alloc (.cells #[.int .i64 0, .int .i64 0, .int .i64 2] 40)).cell? ⟨w4.heap.size, 2, none⟩ = some (.int .i64 1) := B4.cell 2 rfl
  have c0 : (w7.alloc (.cells #[.int .i64 0, .int .i64 0, .int .i64 2] 40)).cell? ⟨w7.heap.size, 0, none⟩ = some (.int .i64 0) := B7.cell 0 rfl
  have c1 : (w7.alloc (.cells #[.int .i64 0, .int .i64 0, .int .i64 2] 40)).cell? ⟨w7.heap.size, 1, none⟩ = some (.int .i64 0) := B7.cell 1 rfl
  have c2 : (w7.alloc (.cells #[.int .i64 0, .int .i64 0, .int .i64 2] 40)).cell? ⟨w7.heap.size, 2, none⟩ = some (.int .i64 2) := B7.cell 2 rfl
  have hAA := Lib.hid A7
  clear B3 B4 B7 A7
  go_wp2_with fail
  refine (HP.free hAA.out.pa hAA.out.tidy t5 (0, 0, 1) (by simp [I64, Hd64])).mono ?_
  rintro e w8 ⟨rfl, hd⟩
  rw [ex_6]
  obtain ⟨col8, A8, _⟩ := hAA.out.did (by omega) hd
  have A8 : AtP PA w col8 w8 16 g ex6 := A8
  clear hAA hd e0 e1 e2 d0 d1 d2 c0 c1 c2
  go_wp2_with fail
  refine (HP.usage A8.pa A8.tidy t6).mono ?_
  rintro e w9 ⟨A9, c9, rfl, _, hb9⟩
  have hF := ex_f
  rw [show ((ex6.fa : Nat) : Int) = 1 by rw [hF]; rfl]
  have hb := A8.since.below.trans (hb9.mono A8.since.below.size)
  have hF2 := fun w => usage_faults A9 ex6.L.length c9 (bytesN ex6.L ex6.s) 1 w
  clear A8 hF hb9
  go_wp2
  go_ret
  exact ⟨rfl, hb⟩
end Go.Proofs.Ytfcnmbahcdpcaaa
