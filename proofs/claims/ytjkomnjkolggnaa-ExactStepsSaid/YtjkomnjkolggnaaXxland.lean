/- The program's exact counters: all that the statements use of them. Conditions: none beyond those typed. -/
import Derived.Test.YtjkomnjkolggnaaXxput
namespace Go.Proofs.Ytjkomnjkolggnaa
open Go.ChangeShapes Go.WideShapes Go.ChangeAt Go.RowKit
set_option linter.unusedVariables false
set_option linter.unusedSimpArgs false
set_option maxRecDepth 100000

theorem progX : ProgX PXs where
  keep h hs hp _ := h.keep hs hp
  good h := h.1
  new ht hk n hn := xNew ht hk n hn
  put H ht e hz h1 h2 := xPut H ht e hz h1 h2
  add H ht s x _ hx := xAdd H ht s x hx
  get H ht s _ := xGet H ht s
  least H ht := xLeast H ht
  take H ht s _ := xTake H ht s
  len H _ := xLen H
  entries H _ := xEntries H
theorem xnAdd (w : World) (s : ByteArray) (x : Int) : Calls Try.prog 13 #[.pointer none, .string s, .int .u64 x] w fun e w' => e = .returned (.int .i64 8) ∧ Below w.heap.size w w' := by
  have hP := xfindN s w
  go_enter Try.func13, Try.ntmps13
  go_wp2_with fail
  refine hP.mono ?_
  rintro r w2 ⟨rfl, rfl⟩
  go_wp2
  go_ret
  exact ⟨rfl, Below.refl _ _⟩
theorem xnGet (w : World) (s : ByteArray) : Calls Try.prog 9 #[.pointer none, .string s] w fun e w' => ∃ x : En, e = .returned (.tuple #[.agg (VE x), .bool false]) ∧ Below w.heap.size w w' := by
  have b1 : Below w.heap.size w (w.alloc (.cells #[.string ⟨#[]⟩, .int .u64 0, .int .u64 0] 32)) := (Below.refl _ _).alloc (Nat.le_refl _) _
  have X1 : BoxN (w.alloc (.cells #[.string ⟨#[]⟩, .int .u64 0, .int .u64 0] 32)) w.heap.size (VE zeroE) 32 := ⟨heap_alloc_new w _, rfl⟩
  have hP := fun W => xfindN s W
  have HX := Lib.hid X1.heap
  have HB := Lib.hid b1
  clear X1 b1
  go_enter Try.func9, Try.ntmps9
  go_wp2_with fail
  refine (hP _).mono ?_
  rintro r w2 ⟨rfl, rfl⟩
  go_wp2
  refine bodyPost_ret (results_cell_row2 rfl _ _ w.heap.size _ _ (0, 0) _ rfl HX.out Try.underlying32 rfl (by kernel_rfl)) rfl ?_
  exact ⟨zeroE, rfl, HB.out⟩
theorem xnTake (w : World) (s : ByteArray) : Calls Try.prog 10 #[.pointer none, .string s] w fun e w' => ∃ x : En, e = .returned (.tuple #[.agg (VE x), .bool false]) ∧ Below w.heap.size w w' := by
  have b1 : Below w.heap.size w (w.alloc (.cells #[.string ⟨#[]⟩, .int .u64 0, .int .u64 0] 32)) := (Below.refl _ _).alloc (Nat.le_refl _) _
  have X1 : BoxN (w.alloc (.cells #[.string ⟨#[]⟩, .int .u64 0, .int .u64 0] 32)) w.heap.size (VE zeroE) 32 := ⟨heap_alloc_new w _, rfl⟩
  have hP := fun W => xfindN s W
  have HX := Lib.hid X1.heap
  have HB := Lib.hid b1
  clear X1 b1
  go_enter Try.func10, Try.ntmps10
  go_wp2_with fail
  refine (hP _).mono ?_
  rintro r w2 ⟨rfl, rfl⟩
  go_wp2
  refine bodyPost_ret (results_cell_row2 rfl _ _ w.heap.size _ _ (0, 0) _ rfl HX.out Try.underlying32 rfl (by kernel_rfl)) rfl ?_
  exact ⟨zeroE, rfl, HB.out⟩
theorem xnLen (w : World) : Calls Try.prog 14 #[.pointer none] w fun e w' => e = .returned (.int .i64 0) ∧ w' = w := by
  go_enter Try.func14, Try.ntmps14
  go_wp2
  go_ret
  exact ⟨rfl, rfl⟩
theorem xnLeast (w : World) : Calls Try.prog 11 #[.pointer none] w fun e w' => ∃ x : En, e = .returned (.tuple #[.agg (VE x), .bool false]) ∧ Below w.heap.size w w' := by
  have b1 : Below w.heap.size w (w.alloc (.cells #[.string ⟨#[]⟩, .int .u64 0, .int .u64 0] 32)) := (Below.refl _ _).alloc (Nat.le_refl _) _
  have X1 : BoxN (w.alloc (.cells #[.string ⟨#[]⟩, .int .u64 0, .int .u64 0] 32)) w.heap.size (VE zeroE) 32 := ⟨heap_alloc_new w _, rfl⟩
  have hP := fun W => xnLen W
  have HX := Lib.hid X1.heap
  have HB := Lib.hid b1
  clear X1 b1
  go_enter Try.func11, Try.ntmps11
  go_wp2_with fail
  refine (hP _).mono ?_
  rintro r w2 ⟨rfl, rfl⟩
  go_wp2
  refine bodyPost_ret (results_cell_row2 rfl _ _ w.heap.size _ _ (0, 0) _ rfl HX.out Try.underlying32 rfl (by kernel_rfl)) rfl ?_
  exact ⟨zeroE, rfl, HB.out⟩
theorem xnEntries (w : World) : Calls Try.prog 15 #[.pointer none] w fun e w' => ∃ A c, e = .returned (.slice A 0 c) ∧ Below w.heap.size w w' := by
  go_enter Try.func15, Try.ntmps15
  go_wp2
  go_ret
  exact ⟨none, 0, rfl, Below.refl _ _⟩
theorem xnPut (w : World) (e : En) : Calls Try.prog 12 #[.pointer none, .agg (VE e)] w fun r w' => r = .returned (.int .i64 8) ∧ Below w.heap.size w w' := by
  have b1 : Below w.heap.size w (w.alloc (.cells #[.string e.1, .int .u64 e.2.1, .int .u64 e.2.2] 32)) := (Below.refl _ _).alloc (Nat.le_refl _) _
  have v0 : (w.alloc (.cells #[.string e.1, .int .u64 e.2.1, .int .u64 e.2.2] 32)).cell? ⟨w.heap.size, 0, none⟩ = some (.string e.1) := (World.cell?_alloc_at (w := w) _ _ _ _ rfl).trans rfl
  have hP := fun s W => xfindN s W
  have HB := Lib.hid b1
  clear b1
  go_enter Try.func12, Try.ntmps12
  go_wp2_with fail
  refine (hP _ _).mono ?_
  rintro r w2 ⟨rfl, rfl⟩
  go_wp2
  go_ret
  exact ⟨rfl, HB.out⟩
theorem progXn : ProgXn where
  put := xnPut
  add := xnAdd
  get := xnGet
  take := xnTake
  least := xnLeast
  len w := (xnLen w).mono fun e w' h => ⟨h.1, by rw [h.2]; exact Below.refl _ _⟩
  entries := xnEntries
end Go.Proofs.Ytjkomnjkolggnaa
