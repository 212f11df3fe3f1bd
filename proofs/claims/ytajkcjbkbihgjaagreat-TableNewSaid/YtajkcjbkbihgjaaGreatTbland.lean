/- The program's tables of either mode, behind an interface: Space-Saving and Misra-Gries keep their contracts. Conditions: ProgT, ProgF. -/
import Derived.Test.YtajkcjbkbihgjaaGreatZ04
import Derived.Test.YtajkcjbkbihgjaaGreatZ05
import Derived.StillTailTactics
namespace Go.Proofs.YtajkcjbkbihgjaaGreat
open Go.ChangeShapes Go.WideShapes Go.ChangeAt Go.RowKit
set_option linter.unusedVariables false
set_option linter.unusedSimpArgs false
set_option maxRecDepth 100000

section
variable {PS : RepT} {PF : RepF} {P : Nat → Prop} {sv : Bool} {col col' : Col} {w w' : World} {k g gi : Nat} {t t' : TSt}
theorem tbLimit0 (mode m total : Int) (w : World) (h0 : -9223372036854775808 ≤ mode ∧ mode ≤ 9223372036854775807) (h1 : -9223372036854775808 ≤ m ∧ m ≤ 9223372036854775807) (h2 : 0 ≤ total ∧ total ≤ 18446744073709551615) :
    Calls Tryz.prog 10 #[.int .i64 mode, .int .i64 m, .int .u64 total] w fun e w' => e = .returned (.int .u64 (limE mode m total)) ∧ w = w' := by
  by_cases c1 : m < 1
  · have HE := Lib.hid (show limE mode m total = total from if_pos (.inl c1))
    go_enter Tryz.func10, Tryz.ntmps10
    go_wp2
    go_ret
    rw [HE.out]
    exact ⟨rfl, rfl⟩
  by_cases c2 : 64 < m
  · have HE := Lib.hid (show limE mode m total = total from if_pos (.inr c2))
    go_enter Tryz.func10, Tryz.ntmps10
    go_wp2
    go_ret
    rw [HE.out]
    exact ⟨rfl, rfl⟩
  have hu : IntKind.u64.wrap m = m := IntWalk.u64_in _ ⟨by omega, by omega⟩
  have hw1 : IntKind.i64.wrap (m + 1) = m + 1 := by rw [IntKind.wrap_i64]; omega
  have hu1 : IntKind.u64.wrap (m + 1) = m + 1 := IntWalk.u64_in _ ⟨by omega, by omega⟩
  have hd1 : total.tdiv m = total / m := Int.tdiv_eq_ediv_of_nonneg h2.1
  have hd2 : total.tdiv (m + 1) = total / (m + 1) := Int.tdiv_eq_ediv_of_nonneg h2.1
  have hb1 : 0 ≤ total / m ∧ total / m ≤ total := ⟨Int.ediv_nonneg h2.1 (by omega), Int.ediv_le_self _ h2.1⟩
  have hb2 : 0 ≤ total / (m + 1) ∧ total / (m + 1) ≤ total := ⟨Int.ediv_nonneg h2.1 (by omega), Int.ediv_le_self _ h2.1⟩
  have hwd1 : IntKind.u64.wrap (total / m) = total / m := IntWalk.u64_in _ ⟨hb1.1, by omega⟩
  have hwd2 : IntKind.u64.wrap (total / (m + 1)) = total / (m + 1) := IntWalk.u64_in _ ⟨hb2.1, by omega⟩
  have hm0 : ¬ m = 0 := by omega
  have hm1 : ¬ m + 1 = 0 := by omega
  have hm0b : (m == 0) = false := beq_false_of_ne hm0
  have hm1b : (m + 1 == 0) = false := beq_false_of_ne hm1
  by_cases c3 : mode = 1
  · subst c3
    have HE := Lib.hid (show limE 1 m total = total / m by unfold limE; rw [if_neg (by omega), if_pos rfl])
    go_enter Tryz.func10, Tryz.ntmps10
    go_wp2
    go_ret
    rw [HE.out]
    exact ⟨rfl, rfl⟩
  by_cases c4 : mode = 2
  · subst c4
    have HE := Lib.hid (show limE 2 m total = total / (m + 1) by unfold limE; rw [if_neg (by omega), if_neg (by decide), if_pos rfl])
    go_enter Tryz.func10, Tryz.ntmps10
    go_wp2
    go_ret
    rw [HE.out]
    exact ⟨rfl, rfl⟩
  · have HE := Lib.hid (show limE mode m total = total by unfold limE; rw [if_neg (by omega), if_neg c3, if_neg c4])
    have e1 : (mode == 1) = false := beq_false_of_ne c3
    have e2 : (mode == 2) = false := beq_false_of_ne c4
    go_enter Tryz.func10, Tryz.ntmps10
    go_wp2
    go_ret
    rw [HE.out]
    exact ⟨rfl, rfl⟩
theorem progTbl : ProgTbl := ⟨fun w mode m total h0 h1 h2 => (tbLimit0 mode m total w h0 h1 h2).mono fun e w' h => ⟨h.1, h.2.symm⟩⟩
theorem tbBounds_any (A : Option Addr) (ks : ByteArray) (o sl bs : Int) (is : Bool) (hbd : is = true → 0 ≤ o ∧ 0 ≤ sl ∧ o + sl ≤ 18446744073709551615) (s : ByteArray) (w : World)
    (hG : ∀ W, Below w.heap.size w W → Calls Tryz.prog 12 #[.pointer A, .string s] W fun e w' => e = .returned (.tuple #[.agg (VE (ks, o, sl)), .bool is]) ∧ Below W.heap.size W w')
    (hU : ∀ W, Below w.heap.size w W → Calls Tryz.prog 17 #[.pointer A] W fun e w' => e = .returned (.int .u64 bs) ∧ Below W.heap.size W w') :
    Calls Tryz.prog 15 #[.pointer A, .string s] w fun e w' => e = .returned (.tuple #[.agg (VB (if is = true then (o, o + sl) else (0, bs))), .bool is]) ∧ Below w.heap.size w w' := by
  have b1 : Below w.heap.size w (w.alloc (.cells #[.int .u64 0, .int .u64 0] 40)) := (Below.refl _ _).alloc (Nat.le_refl _) _
  have t1 := (Since.start w).tidy.size b1.size
  have X1 : BoxC (fun _ => 0) (w.alloc (.cells #[.int .u64 0, .int .u64 0] 40)) w.heap.size 0 #[.int .u64 0, .int .u64 0] 40 := ⟨heap_alloc_new w _, rfl⟩
  have hC := hG _ b1
  obtain ⟨W1, hW1⟩ : ∃ W1, W1 = w.alloc (.cells #[.int .u64 0, .int .u64 0] 40) := ⟨_, rfl⟩
  obtain ⟨G, hG'⟩ : ∃ G, w.heap.size = G := ⟨_, rfl⟩
  rw [← hW1] at hC X1 b1 t1
  rw [hG'] at X1
  have hGW : w.heap.size ≤ G := by omega
  cases is with
  | false =>
    have hC' : Calls Tryz.prog 12 #[.pointer A, .string s] W1 fun e w' => e = .returned (.tuple #[.agg #[.string ks, .int .u64 o, .int .u64 sl], .bool false]) ∧ Below W1.heap.size W1 w' := hC
    show Calls _ _ _ _ fun e w' => e = .returned (.tuple #[.agg (VB (0, bs)), .bool false]) ∧ Below w.heap.size w w'
    clear hC hG hbd
    go_enter Tryz.func15, Tryz.ntmps15
    go_wp2_with fail
    rw [← hW1]
    clear hW1
    refine hC'.mono ?_
    rintro e w2 ⟨rfl, b2⟩
    have b3 : Below W1.heap.size W1 (w2.alloc (.cells #[.string ks, .int .u64 o, .int .u64 sl] 34)) := b2.alloc b2.size _
    have X3 := X1.keep (P := fun _ => False) (StepC.below t1 b3) (fun h => h)
    have t3 := t1.size b3.size
    have B3 := below_then b1 b3
    have hU3 := hU _ B3
    clear X1 b2 b3 hC' hU
    go_wp2_with fail
    refine hU3.mono ?_
    rintro e w4 ⟨rfl, b4⟩
    have X4 := X3.keep (P := fun _ => False) (StepC.below t3 b4) (fun h => h)
    have B4 := below_then B3 b4
    have z0 : w4.cell? ⟨G, 0, none⟩ = some (.int .u64 0) := X4.cell 0 rfl
    have z1 : w4.cell? ⟨G, 1, none⟩ = some (.int .u64 0) := X4.cell 1 rfl
    have f0 := X4.free 0
    have f1 := X4.free 1
    have HX := Lib.hid (show _ from ((X4.put 0 (.int .u64 0)).put 1 (.int .u64 bs)).heap)
    have HB := Lib.hid ((B4.setCell (p := ⟨G, 0, none⟩) hGW (.int .u64 0)).setCell (p := ⟨G, 1, none⟩) hGW (.int .u64 bs))
    clear X3 X4 t3 B3 B4 b1 b4 hU3 hG' hGW
    go_wp2
    refine bodyPost_ret (results_cell_row2 rfl _ _ G _ _ (0, 0) _ rfl HX.out Tryz.underlying40 rfl (by kernel_rfl)) rfl ?_
    exact ⟨rfl, HB.out⟩
  | true =>
    have hC' : Calls Tryz.prog 12 #[.pointer A, .string s] W1 fun e w' => e = .returned (.tuple #[.agg #[.string ks, .int .u64 o, .int .u64 sl], .bool true]) ∧ Below W1.heap.size W1 w' := hC
    obtain ⟨d1, d2, d3⟩ := hbd rfl
    have hwr : IntKind.u64.wrap (o + sl) = o + sl := IntWalk.u64_in _ ⟨by omega, by omega⟩
    obtain ⟨q, hq⟩ : ∃ q, o + sl = q := ⟨_, rfl⟩
    show Calls _ _ _ _ fun e w' => e = .returned (.tuple #[.agg (VB (o, o + sl)), .bool true]) ∧ Below w.heap.size w w'
    rw [hq]
    rw [hq] at hwr
    clear hC hG hbd d1 d2 d3 hU
    go_enter Tryz.func15, Tryz.ntmps15
    go_wp2_with fail
    rw [← hW1]
    clear hW1
    refine hC'.mono ?_
    rintro e w2 ⟨rfl, b2⟩
    have b3 : Below W1.heap.size W1 (w2.alloc (.cells #[.string ks, .int .u64 o, .int .u64 sl] 34)) := b2.alloc b2.size _
    have X3 := X1.keep (P := fun _ => False) (StepC.below t1 b3) (fun h => h)
    have B3 := below_then b1 b3
    have Z3 : BoxC (fun _ => 0) (w2.alloc (.cells #[.string ks, .int .u64 o, .int .u64 sl] 34)) w2.heap.size 0 (VE (ks, o, sl)) 34 := ⟨heap_alloc_new _ _, rfl⟩
    have v1 : (w2.alloc (.cells #[.string ks, .int .u64 o, .int .u64 sl] 34)).cell? ⟨w2.heap.size, 1, none⟩ = some (.int .u64 o) := Z3.cell 1 rfl
    have v2 : (w2.alloc (.cells #[.string ks, .int .u64 o, .int .u64 sl] 34)).cell? ⟨w2.heap.size, 2, none⟩ = some (.int .u64 sl) := Z3.cell 2 rfl
    have z0 : (w2.alloc (.cells #[.string ks, .int .u64 o, .int .u64 sl] 34)).cell? ⟨G, 0, none⟩ = some (.int .u64 0) := X3.cell 0 rfl
    have z1 : (w2.alloc (.cells #[.string ks, .int .u64 o, .int .u64 sl] 34)).cell? ⟨G, 1, none⟩ = some (.int .u64 0) := X3.cell 1 rfl
    have f0 := X3.free 0
    have f1 := X3.free 1
    have HX := Lib.hid (show _ from ((X3.put 0 (.int .u64 o)).put 1 (.int .u64 q)).heap)
    have HB := Lib.hid ((B3.setCell (p := ⟨G, 0, none⟩) hGW (.int .u64 o)).setCell (p := ⟨G, 1, none⟩) hGW (.int .u64 q))
    clear X1 X3 Z3 hC' b1 b2 b3 B3 t1 hG' hGW
    go_wp2
    refine bodyPost_ret (results_cell_row2 rfl _ _ G _ _ (0, 0) _ rfl HX.out Tryz.underlying40 rfl (by kernel_rfl)) rfl ?_
    exact ⟨rfl, HB.out⟩
theorem tnilAdd (w : World) (s : ByteArray) (x : Int) : Calls Tryz.prog 16 #[.pointer none, .string s, .int .u64 x] w fun e w' => e = .returned (.int .i64 8) ∧ Below w.heap.size w w' := by
  go_enter Tryz.func16, Tryz.ntmps16
  go_wp2
  go_ret
  exact ⟨rfl, Below.refl _ _⟩
theorem tnilUntracked (w : World) : Calls Tryz.prog 17 #[.pointer none] w fun e w' => e = .returned (.int .u64 0) ∧ Below w.heap.size w w' := by
  go_enter Tryz.func17, Tryz.ntmps17
  go_wp2
  go_ret
  exact ⟨rfl, Below.refl _ _⟩
theorem tnilTotal (w : World) : Calls Tryz.prog 18 #[.pointer none] w fun e w' => e = .returned (.int .u64 0) ∧ Below w.heap.size w w' := by
  go_enter Tryz.func18, Tryz.ntmps18
  go_wp2
  go_ret
  exact ⟨rfl, Below.refl _ _⟩
theorem tnilLen (w : World) : Calls Tryz.prog 19 #[.pointer none] w fun e w' => e = .returned (.int .i64 0) ∧ Below w.heap.size w w' := by
  go_enter Tryz.func19, Tryz.ntmps19
  go_wp2
  go_ret
  exact ⟨rfl, Below.refl _ _⟩
theorem tnilEntries (w : World) : Calls Tryz.prog 20 #[.pointer none] w fun e w' => ∃ A c, e = .returned (.slice A 0 c) ∧ Below w.heap.size w w' := by
  go_enter Tryz.func20, Tryz.ntmps20
  go_wp2
  go_ret
  exact ⟨_, _, rfl, Below.refl _ _⟩
theorem tnilGet (w : World) (s : ByteArray) : Calls Tryz.prog 12 #[.pointer none, .string s] w fun e w' => e = .returned (.tuple #[.agg (VE zeroE), .bool false]) ∧ Below w.heap.size w w' := by
  have HX := Lib.hid (show (w.alloc (.cells #[.string ⟨#[]⟩, .int .u64 0, .int .u64 0] 34)).heap[w.heap.size]? = some (.cells (VE zeroE) 34 (0, 0)) from heap_alloc_new w _)
  have HB := Lib.hid (show Below w.heap.size w (w.alloc (.cells #[.string ⟨#[]⟩, .int .u64 0, .int .u64 0] 34)) from (Below.refl _ _).alloc (Nat.le_refl _) _)
  go_enter Tryz.func12, Tryz.ntmps12
  go_wp2
  refine bodyPost_ret (results_cell_row2 rfl _ _ w.heap.size _ _ (0, 0) _ rfl HX.out Tryz.underlying34 rfl (by kernel_rfl)) rfl ?_
  exact ⟨rfl, HB.out⟩
theorem tnilTake (w : World) (s : ByteArray) : Calls Tryz.prog 13 #[.pointer none, .string s] w fun e w' => e = .returned (.tuple #[.agg (VE zeroE), .bool false]) ∧ Below w.heap.size w w' := by
  have HX := Lib.hid (show (w.alloc (.cells #[.string ⟨#[]⟩, .int .u64 0, .int .u64 0] 34)).heap[w.heap.size]? = some (.cells (VE zeroE) 34 (0, 0)) from heap_alloc_new w _)
  have HB := Lib.hid (show Below w.heap.size w (w.alloc (.cells #[.string ⟨#[]⟩, .int .u64 0, .int .u64 0] 34)) from (Below.refl _ _).alloc (Nat.le_refl _) _)
  go_enter Tryz.func13, Tryz.ntmps13
  go_wp2
  refine bodyPost_ret (results_cell_row2 rfl _ _ w.heap.size _ _ (0, 0) _ rfl HX.out Tryz.underlying34 rfl (by kernel_rfl)) rfl ?_
  exact ⟨rfl, HB.out⟩
theorem tnilBounds (w : World) (s : ByteArray) : Calls Tryz.prog 15 #[.pointer none, .string s] w fun e w' => e = .returned (.tuple #[.agg (VB (0, 0)), .bool false]) ∧ Below w.heap.size w w' :=
  tbBounds_any none ⟨#[]⟩ 0 0 0 false (fun h => by cases h) s w (fun W _ => tnilGet W s) (fun W _ => tnilUntracked W)
theorem tnilSwap (w : World) (s : ByteArray) (e : En) : Calls Tryz.prog 14 #[.pointer none, .string s, .agg (VE e)] w fun r w' => r = .returned (.tuple #[.agg (VE zeroE), .int .i64 8]) ∧ Below w.heap.size w w' := by
  obtain ⟨k, o, sl⟩ := e
  have b0 : Below w.heap.size w (w.alloc (.cells #[.string k, .int .u64 o, .int .u64 sl] 34)) := (Below.refl _ _).alloc (Nat.le_refl _) _
  have hsz : (w.alloc (.cells #[.string k, .int .u64 o, .int .u64 sl] 34)).heap.size = w.heap.size + 1 := by simp
  have HX := Lib.hid (show ((w.alloc (.cells #[.string k, .int .u64 o, .int .u64 sl] 34)).alloc (.cells #[.string ⟨#[]⟩, .int .u64 0, .int .u64 0] 34)).heap[w.heap.size + 1]? = some (.cells (VE zeroE) 34 (0, 0)) by rw [← hsz]; exact heap_alloc_new _ _)
  have HB := Lib.hid (b0.alloc b0.size (.cells #[.string ⟨#[]⟩, .int .u64 0, .int .u64 0] 34))
  clear b0 hsz
  go_enter Tryz.func14, Tryz.ntmps14
  go_wp2
  refine bodyPost_ret (results_cell_row2 rfl _ _ (w.heap.size + 1) _ _ (0, 0) _ rfl HX.out Tryz.underlying34 rfl (by kernel_rfl)) rfl ?_
  exact ⟨rfl, HB.out⟩
theorem progTbn : ProgTbn := ⟨tnilAdd, fun w s => (tnilGet w s).mono fun e w' h => ⟨_, h⟩, fun w s => (tnilTake w s).mono fun e w' h => ⟨_, h⟩, fun w s x => (tnilSwap w s x).mono fun e w' h => ⟨_, h⟩, tnilBounds, tnilUntracked, tnilTotal, tnilLen, tnilEntries⟩
end
end Go.Proofs.YtajkcjbkbihgjaaGreat
