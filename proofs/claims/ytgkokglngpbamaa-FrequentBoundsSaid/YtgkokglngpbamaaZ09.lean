/- Words laid together in one text. Conditions: none beyond those typed. -/
import Derived.Test.YtgkokglngpbamaaZ04
import Derived.Test.YtgkokglngpbamaaTm
import Derived.Deep.RegionHeld3
import Derived.Deep.CutRange
import Derived.BigQuiet
/- The specified table in memory: Swap, keys that are there. Conditions: none beyond those typed. -/
namespace Go.Proofs.Ytgkokglngpbamaa
open Go.ChangeShapes Go.WideShapes Go.ChangeAt Go.RowKit
set_option linter.unusedVariables false
set_option linter.unusedSimpArgs false
set_option maxRecDepth 100000

section
variable {P : Nat → Prop} {col col' : Col} {w w' : World} {k g : Nat} {t : TSt}
set_option maxHeartbeats 4000000 in
theorem rfSwapDup (H : RefF col k w g t) (ht : Tidy col w) (s : ByteArray) (e : En) {i : Nat} (hp : placeE t.l s = some i) (hz : e.1.size ≠ 0) {jd : Nat} (hd : placeE t.l e.1 = some jd) :
    Calls Try.prog 25 #[.pointer (some ⟨g, 0, none⟩), .string s, .agg #[.string e.1, .int .u64 e.2.1, .int .u64 e.2.2]] w fun r w' => r = .returned (.tuple #[.agg (VE zeroE), .int .i64 10]) ∧ DidRF col k w g t w' := by
  have b0 : Below w.heap.size w (w.alloc (.cells #[.string e.1, .int .u64 e.2.1, .int .u64 e.2.2] 32)) := (Below.refl _ _).alloc (Nat.le_refl _) _
  have b1 : Below w.heap.size w ((w.alloc (.cells #[.string e.1, .int .u64 e.2.1, .int .u64 e.2.2] 32)).alloc (.cells #[.string ⟨#[]⟩, .int .u64 0, .int .u64 0] 32)) := b0.alloc b0.size _
  have T0 := ht.size b0.size
  have H1 := H.below ht b1
  have ht1 := ht.size b1.size
  have X1 : BoxC col ((w.alloc (.cells #[.string e.1, .int .u64 e.2.1, .int .u64 e.2.2] 32)).alloc (.cells #[.string ⟨#[]⟩, .int .u64 0, .int .u64 0] 32)) (w.alloc (.cells #[.string e.1, .int .u64 e.2.1, .int .u64 e.2.2] 32)).heap.size 0 (VE zeroE) 32 := ⟨heap_alloc_new _ _, T0 _ (Nat.le_refl _)⟩
  rw [show (w.alloc (.cells #[.string e.1, .int .u64 e.2.1, .int .u64 e.2.2] 32)).heap.size = w.heap.size + 1 by simp] at X1
  obtain ⟨W1, hW1⟩ : ∃ W1, W1 = ((w.alloc (.cells #[.string e.1, .int .u64 e.2.1, .int .u64 e.2.2] 32)).alloc (.cells #[.string ⟨#[]⟩, .int .u64 0, .int .u64 0] 32)) := ⟨_, rfl⟩
  rw [← hW1] at H1 X1 ht1 b1
  have X5 : BoxC col W1 w.heap.size 0 (VE e) 32 := by
    rw [hW1]
    exact BoxC.keep (P := fun _ => False) ⟨heap_alloc_new _ _, ht _ (Nat.le_refl _)⟩ (StepC.alloc T0 _) (fun h => h)
  obtain ⟨e0, he0, -, hil⟩ := placeE_some hp
  have hb : e.1.toList.isEmpty = false := ba_some (by omega)
  have hGt := rfGet H1 ht1 s
  obtain ⟨te, hte⟩ : ∃ te, t.tellF e0 = te := ⟨_, rfl⟩
  rw [show t.getF s = (te, true) by unfold TSt.getF; rw [hp]; show (t.tellF ((t.l[i]?).getD zeroE), true) = _; rw [he0, ← hte]; rfl] at hGt
  replace hGt : Calls Try.prog 26 #[.pointer (some ⟨g, 0, none⟩), .string s] W1 (fun e w' => e = .returned (.tuple #[.agg #[.string te.1, .int .u64 te.2.1, .int .u64 te.2.2], .bool true]) ∧ Below W1.heap.size W1 w') := hGt
  obtain ⟨G5, hG5⟩ : ∃ G5, w.heap.size = G5 := ⟨_, rfl⟩
  obtain ⟨G, hG⟩ : ∃ G, G5 + 1 = G := ⟨_, rfl⟩
  rw [hG5, hG] at X1
  rw [hG5] at X5
  have hGW : w.heap.size ≤ G := by omega
  go_enter Try.func25, Try.ntmps25
  go_wp2_with fail
  rw [← hW1]
  clear hW1
  refine hGt.mono ?_
  rintro eR w2 ⟨rfl, b2⟩
  have b3 : Below W1.heap.size W1 (w2.alloc (.cells #[.string te.1, .int .u64 te.2.1, .int .u64 te.2.2] 32)) := b2.alloc b2.size _
  have X3 : BoxC col (w2.alloc (.cells #[.string te.1, .int .u64 te.2.1, .int .u64 te.2.2] 32)) G 0 (VE zeroE) 32 := X1.keep (P := fun _ => False) (StepC.below ht1 b3) (fun h => h)
  have X6 := X5.keep (P := fun _ => False) (StepC.below ht1 b3) (fun h => h)
  have v0 : (w2.alloc (.cells #[.string te.1, .int .u64 te.2.1, .int .u64 te.2.2] 32)).cell? ⟨G5, 0, none⟩ = some (.string e.1) := X6.cell 0 rfl
  have T3 := ht1.size b3.size
  have S3 : StepC (Rng k) col w col (w2.alloc (.cells #[.string te.1, .int .u64 te.2.1, .int .u64 te.2.2] 32)) := StepC.below ht (below_then b1 b3)
  have H3 := H1.below ht1 b3
  go_upto_region 6 with fail
  have hbb := below_then b1 b3
  generalize w2.alloc (.cells #[.string te.1, .int .u64 te.2.1, .int .u64 te.2.2] 32) = W3 at *
  obtain ⟨hGd, A, c, HB3⟩ := H3
  obtain ⟨n, hn⟩ : ∃ n, t.l.length = n := ⟨_, rfl⟩
  have hn6 : n ≤ 64 := by have := hGd.len; have := hGd.m1; omega
  have y2 : W3.cell? ⟨g, 2, none⟩ = some (.slice A n c) := by rw [← hn]; exact HB3.box.cell 2 rfl
  have hRow : RdG kEn W3 A n c t.l := by rw [← hn]; exact HB3.row.own.reads
  have hPl := fun (W : World) (hb : Below W3.heap.size W3 W) => place_any (hRow.below hb) (by omega) e.1
  unfold placeI at hPl
  rw [hd] at hPl
  have hjd : (0 : Int) ≤ (jd : Int) := by omega
  have HX3 := Lib.hid X3
  have HH := Lib.hid H
  have HBB := Lib.hid hbb
  clear HB3 hRow X1 X3 X5 X6 H1 H b0 b1 b2 b3 hGt hp he0 hil S3 hbb
  have hSP : ∀ W, Below W3.heap.size W3 W → (fun w' => w'.cell? ⟨g, 2, none⟩ = some (.slice A n c) ∧ w'.cell? ⟨G5, 0, none⟩ = some (.string e.1)) W := fun W B => ⟨(cellB y2 B).1, (cellB v0 B).1⟩
  refine wp_region_noPanic ?_
  refine wp_region_late (fun w' => w'.cell? ⟨g, 2, none⟩ = some (.slice A n c) ∧ w'.cell? ⟨G5, 0, none⟩ = some (.string e.1)) (fun j => [0, 1, 2, 4].contains j) (by kernel_rfl) ?_
  intro u0 hu0
  have B0 : Below W3.heap.size W3 u0 := by rw [← hu0]; exact bdM _
  have hS : (fun w' => w'.cell? ⟨g, 2, none⟩ = some (.slice A n c) ∧ w'.cell? ⟨G5, 0, none⟩ = some (.string e.1)) u0 := hSP _ B0
  clear hu0
  refine wpAnyL_takeY 0 _ (.pointer (some ⟨g, 0, none⟩)) rfl (by kernel_rfl) (by kernel_rfl) (by kernel_rfl) (by kernel_rfl) (fun _ _ _ h => h) (Or.inl ⟨by rfl, ?_⟩) ?_
  · intro w'; go_simp
  simp only [Act.put, List.setIfInBounds_toArray, List.set_cons_zero, List.set_cons_succ]
  refine wpAnyL_takeY 1 _ (.pointer (some ⟨g, 0, none⟩)) rfl (by kernel_rfl) (by kernel_rfl) (by kernel_rfl) (by kernel_rfl) (fun _ _ _ h => h) (Or.inl ⟨by rfl, ?_⟩) ?_
  · intro w'; go_simp
  simp only [Act.put, List.setIfInBounds_toArray, List.set_cons_zero, List.set_cons_succ]
  refine wpAnyL_takeY 2 _ (.pointer (some ⟨g, 2, none⟩)) rfl (by kernel_rfl) (by kernel_rfl) (by kernel_rfl) (by kernel_rfl) (fun _ _ _ h => h) (Or.inl ⟨by rfl, ?_⟩) ?_
  · intro w'; go_simp
  simp only [Act.put, List.setIfInBounds_toArray, List.set_cons_zero, List.set_cons_succ]
  refine wpAnyL_takeY 4 _ (.pointer (some ⟨G5, 0, none⟩)) rfl (by kernel_rfl) (by kernel_rfl) (by kernel_rfl) (by kernel_rfl) (fun _ _ _ h => h) (Or.inl ⟨by rfl, ?_⟩) ?_
  · intro w'; go_simp
  simp only [Act.put, List.setIfInBounds_toArray, List.set_cons_zero, List.set_cons_succ]
  refine wpAnyL_take 3 _ (.slice A n c) rfl (by kernel_rfl) (by kernel_rfl) (by kernel_rfl) (by kernel_rfl) (fun _ _ _ h => h) (Or.inl ⟨by rfl, ?_⟩) hS ?_
  · rintro w' ⟨hS0, hS1⟩; go_simp
  simp only [Act.put, List.setIfInBounds_toArray, List.set_cons_zero, List.set_cons_succ]
  refine wpAnyL_take 5 _ (.string e.1) rfl (by kernel_rfl) (by kernel_rfl) (by kernel_rfl) (by kernel_rfl) (fun _ _ _ h => h) (Or.inl ⟨by rfl, ?_⟩) hS ?_
  · rintro w' ⟨hS0, hS1⟩; go_simp
  simp only [Act.put, List.setIfInBounds_toArray, List.set_cons_zero, List.set_cons_succ]
  clear hS
  refine wpAnyL_all [6] (by kernel_rfl) (by simp) ?_
  refine lateCons ?_ lateNil
  refine wpOpL_step _ rfl (fun K' hK => ?_)
  go_simp
  refine (hPl _ B0).mono ?_
  rintro eR u1 ⟨rfl, bp⟩
  have B1 := below_then B0 bp
  refine hK.out _ _ (fun _ => hSP _ B1) ?_
  clear hK K' bp B0
  try simp only [Act.put, List.setIfInBounds_toArray, List.set_cons_zero, List.set_cons_succ]
  refine wpAnyL_take 7 _ (.bool true) rfl (by kernel_rfl) (by kernel_rfl) (by kernel_rfl) (by kernel_rfl) (fun _ _ _ h => h) (Or.inl ⟨by rfl, ?_⟩) (hSP _ B1) ?_
  · rintro w' ⟨hS0, hS1⟩; go_simp
  simp only [Act.put, List.setIfInBounds_toArray, List.set_cons_zero, List.set_cons_succ]
  refine wpAnyL_done (by kernel_rfl) ?_ _
  dsimp only [NoPanic]
  have T3' := T3
  have X9 := HX3.out.keep (P := fun _ => False) (StepC.below T3 B1) (fun h => h)
  have y0 : u1.cell? ⟨G, 0, none⟩ = some (.string ⟨#[]⟩) := X9.cell 0 rfl
  have y1 : u1.cell? ⟨G, 1, none⟩ = some (.int .u64 0) := X9.cell 1 rfl
  have y3 : u1.cell? ⟨G, 2, none⟩ = some (.int .u64 0) := X9.cell 2 rfl
  have f0 := X9.free 0
  have f1 := X9.free 1
  have f2 := X9.free 2
  have HX := Lib.hid (vbox_en X9 (a := zeroE) zeroE).heap
  have HBq := (((below_then HBB.out B1).setCell (p := ⟨G, 0, none⟩) hGW (.string ⟨#[]⟩)).setCell (p := ⟨G, 1, none⟩) hGW (.int .u64 0)).setCell (p := ⟨G, 2, none⟩) hGW (.int .u64 0)
  have HD := Lib.hid (show DidRF col k w g t _ from ⟨col, HH.out.below ht HBq, StepC.below ht HBq⟩)
  clear X9 HBq HX3 HH HBB hPl y2 v0 B1 hG hG5 hGW
  go_wp2
  refine bodyPost_ret (results_cell_row2 rfl _ _ G _ _ (0, 0) _ rfl HX.out Try.underlying32 rfl (by kernel_rfl)) rfl ?_
  exact ⟨rfl, HD.out⟩

end
end Go.Proofs.Ytgkokglngpbamaa

/- The specified table in memory: Swap, keys that are there. Conditions: none beyond those typed. -/
namespace Go.Proofs.Ytgkokglngpbamaa
open Go.ChangeShapes Go.WideShapes Go.ChangeAt Go.RowKit
set_option linter.unusedVariables false
set_option linter.unusedSimpArgs false
set_option maxRecDepth 100000

section
variable {P : Nat → Prop} {col col' : Col} {w w' : World} {k g : Nat} {t : TSt}
set_option maxHeartbeats 4000000 in
theorem rfSwapRange (H : RefF col k w g t) (ht : Tidy col w) (s : ByteArray) (e : En) {i : Nat} (hp : placeE t.l s = some i) (hz : e.1.size ≠ 0) (hd : placeE t.l e.1 = none) (he1 : 0 ≤ e.2.1 ∧ e.2.1 ≤ 18446744073709551615) (hr : e.2.1 = 0 ∨ ownAt t.l i < e.2.1 ∨ t.base < e.2.2) :
    Calls Try.prog 25 #[.pointer (some ⟨g, 0, none⟩), .string s, .agg #[.string e.1, .int .u64 e.2.1, .int .u64 e.2.2]] w fun r w' => r = .returned (.tuple #[.agg (VE zeroE), .int .i64 1]) ∧ DidRF col k w g t w' := by
  have b0 : Below w.heap.size w (w.alloc (.cells #[.string e.1, .int .u64 e.2.1, .int .u64 e.2.2] 32)) := (Below.refl _ _).alloc (Nat.le_refl _) _
  have b1 : Below w.heap.size w ((w.alloc (.cells #[.string e.1, .int .u64 e.2.1, .int .u64 e.2.2] 32)).alloc (.cells #[.string ⟨#[]⟩, .int .u64 0, .int .u64 0] 32)) := b0.alloc b0.size _
  have T0 := ht.size b0.size
  have H1 := H.below ht b1
  have ht1 := ht.size b1.size
  have X1 : BoxC col ((w.alloc (.cells #[.string e.1, .int .u64 e.2.1, .int .u64 e.2.2] 32)).alloc (.cells #[.string ⟨#[]⟩, .int .u64 0, .int .u64 0] 32)) (w.alloc (.cells #[.string e.1, .int .u64 e.2.1, .int .u64 e.2.2] 32)).heap.size 0 (VE zeroE) 32 := ⟨heap_alloc_new _ _, T0 _ (Nat.le_refl _)⟩
  rw [show (w.alloc (.cells #[.string e.1, .int .u64 e.2.1, .int .u64 e.2.2] 32)).heap.size = w.heap.size + 1 by simp] at X1
  obtain ⟨W1, hW1⟩ : ∃ W1, W1 = ((w.alloc (.cells #[.string e.1, .int .u64 e.2.1, .int .u64 e.2.2] 32)).alloc (.cells #[.string ⟨#[]⟩, .int .u64 0, .int .u64 0] 32)) := ⟨_, rfl⟩
  rw [← hW1] at H1 X1 ht1 b1
  have X5 : BoxC col W1 w.heap.size 0 (VE e) 32 := by
    rw [hW1]
    exact BoxC.keep (P := fun _ => False) ⟨heap_alloc_new _ _, ht _ (Nat.le_refl _)⟩ (StepC.alloc T0 _) (fun h => h)
  obtain ⟨e0, he0, -, hil⟩ := placeE_some hp
  have hb : e.1.toList.isEmpty = false := ba_some (by omega)
  have hGt := rfGet H1 ht1 s
  obtain ⟨te, hte⟩ : ∃ te, t.tellF e0 = te := ⟨_, rfl⟩
  rw [show t.getF s = (te, true) by unfold TSt.getF; rw [hp]; show (t.tellF ((t.l[i]?).getD zeroE), true) = _; rw [he0, ← hte]; rfl] at hGt
  replace hGt : Calls Try.prog 26 #[.pointer (some ⟨g, 0, none⟩), .string s] W1 (fun e w' => e = .returned (.tuple #[.agg #[.string te.1, .int .u64 te.2.1, .int .u64 te.2.2], .bool true]) ∧ Below W1.heap.size W1 w') := hGt
  obtain ⟨G5, hG5⟩ : ∃ G5, w.heap.size = G5 := ⟨_, rfl⟩
  obtain ⟨G, hG⟩ : ∃ G, G5 + 1 = G := ⟨_, rfl⟩
  rw [hG5, hG] at X1
  rw [hG5] at X5
  have hGW : w.heap.size ≤ G := by omega
  go_enter Try.func25, Try.ntmps25
  go_wp2_with fail
  rw [← hW1]
  clear hW1
  refine hGt.mono ?_
  rintro eR w2 ⟨rfl, b2⟩
  have b3 : Below W1.heap.size W1 (w2.alloc (.cells #[.string te.1, .int .u64 te.2.1, .int .u64 te.2.2] 32)) := b2.alloc b2.size _
  have X3 : BoxC col (w2.alloc (.cells #[.string te.1, .int .u64 te.2.1, .int .u64 te.2.2] 32)) G 0 (VE zeroE) 32 := X1.keep (P := fun _ => False) (StepC.below ht1 b3) (fun h => h)
  have X6 := X5.keep (P := fun _ => False) (StepC.below ht1 b3) (fun h => h)
  have v0 : (w2.alloc (.cells #[.string te.1, .int .u64 te.2.1, .int .u64 te.2.2] 32)).cell? ⟨G5, 0, none⟩ = some (.string e.1) := X6.cell 0 rfl
  have X8 : BoxC col (w2.alloc (.cells #[.string te.1, .int .u64 te.2.1, .int .u64 te.2.2] 32)) w2.heap.size 0 (VE te) 32 := ⟨heap_alloc_new _ _, (ht1.size b2.size) _ (Nat.le_refl _)⟩
  obtain ⟨G8, hG8⟩ : ∃ G8, w2.heap.size = G8 := ⟨_, rfl⟩
  rw [hG8] at X8
  have T3 := ht1.size b3.size
  have S3 : StepC (Rng k) col w col (w2.alloc (.cells #[.string te.1, .int .u64 te.2.1, .int .u64 te.2.2] 32)) := StepC.below ht (below_then b1 b3)
  have H3 := H1.below ht1 b3
  go_upto_region 6 with fail
  have hbb := below_then b1 b3
  generalize w2.alloc (.cells #[.string te.1, .int .u64 te.2.1, .int .u64 te.2.2] 32) = W3 at *
  obtain ⟨hGd, A, c, HB3⟩ := H3
  obtain ⟨n, hn⟩ : ∃ n, t.l.length = n := ⟨_, rfl⟩
  have hn6 : n ≤ 64 := by have := hGd.len; have := hGd.m1; omega
  have y2 : W3.cell? ⟨g, 2, none⟩ = some (.slice A n c) := by rw [← hn]; exact HB3.box.cell 2 rfl
  have hRow : RdG kEn W3 A n c t.l := by rw [← hn]; exact HB3.row.own.reads
  have hPl := fun (W : World) (hb : Below W3.heap.size W3 W) => place_any (hRow.below hb) (by omega) e.1
  unfold placeI at hPl
  rw [hd] at hPl
  have hox : ownAt t.l i = te.2.1 := by unfold ownAt; rw [he0, ← hte]; rfl
  rw [hox] at hr
  have b3c : W3.cell? ⟨g, 3, none⟩ = some (.int .u64 t.base) := HB3.box.cell 3 rfl
  have z0 : W3.cell? ⟨g, 0, none⟩ = some (.int .i64 2) := HB3.box.cell 0 rfl
  have v1 : W3.cell? ⟨G5, 1, none⟩ = some (.int .u64 e.2.1) := X6.cell 1 rfl
  have v2 : W3.cell? ⟨G5, 2, none⟩ = some (.int .u64 e.2.2) := X6.cell 2 rfl
  have q1 : W3.cell? ⟨G8, 1, none⟩ = some (.int .u64 te.2.1) := X8.cell 1 rfl
  have q2 : W3.cell? ⟨G8, 2, none⟩ = some (.int .u64 te.2.2) := X8.cell 2 rfl
  have HX3 := Lib.hid X3
  have HH := Lib.hid H
  have HBB := Lib.hid hbb
  clear X8 hG8 hte hox HB3 hRow X1 X3 X5 X6 H1 H b0 b1 b2 b3 hGt hp he0 hil S3 hbb
  have hSP : ∀ W, Below W3.heap.size W3 W → (fun w' => w'.cell? ⟨g, 2, none⟩ = some (.slice A n c) ∧ w'.cell? ⟨G5, 0, none⟩ = some (.string e.1)) W := fun W B => ⟨(cellB y2 B).1, (cellB v0 B).1⟩
  refine wp_region_noPanic ?_
  refine wp_region_late (fun w' => w'.cell? ⟨g, 2, none⟩ = some (.slice A n c) ∧ w'.cell? ⟨G5, 0, none⟩ = some (.string e.1)) (fun j => [0, 1, 2, 4].contains j) (by kernel_rfl) ?_
  intro u0 hu0
  have B0 : Below W3.heap.size W3 u0 := by rw [← hu0]; exact bdM _
  have hS : (fun w' => w'.cell? ⟨g, 2, none⟩ = some (.slice A n c) ∧ w'.cell? ⟨G5, 0, none⟩ = some (.string e.1)) u0 := hSP _ B0
  clear hu0
  refine wpAnyL_takeY 0 _ (.pointer (some ⟨g, 0, none⟩)) rfl (by kernel_rfl) (by kernel_rfl) (by kernel_rfl) (by kernel_rfl) (fun _ _ _ h => h) (Or.inl ⟨by rfl, ?_⟩) ?_
  · intro w'; go_simp
  simp only [Act.put, List.setIfInBounds_toArray, List.set_cons_zero, List.set_cons_succ]
  refine wpAnyL_takeY 1 _ (.pointer (some ⟨g, 0, none⟩)) rfl (by kernel_rfl) (by kernel_rfl) (by kernel_rfl) (by kernel_rfl) (fun _ _ _ h => h) (Or.inl ⟨by rfl, ?_⟩) ?_
  · intro w'; go_simp
  simp only [Act.put, List.setIfInBounds_toArray, List.set_cons_zero, List.set_cons_succ]
  refine wpAnyL_takeY 2 _ (.pointer (some ⟨g, 2, none⟩)) rfl (by kernel_rfl) (by kernel_rfl) (by kernel_rfl) (by kernel_rfl) (fun _ _ _ h => h) (Or.inl ⟨by rfl, ?_⟩) ?_
  · intro w'; go_simp
  simp only [Act.put, List.setIfInBounds_toArray, List.set_cons_zero, List.set_cons_succ]
  refine wpAnyL_takeY 4 _ (.pointer (some ⟨G5, 0, none⟩)) rfl (by kernel_rfl) (by kernel_rfl) (by kernel_rfl) (by kernel_rfl) (fun _ _ _ h => h) (Or.inl ⟨by rfl, ?_⟩) ?_
  · intro w'; go_simp
  simp only [Act.put, List.setIfInBounds_toArray, List.set_cons_zero, List.set_cons_succ]
  refine wpAnyL_take 3 _ (.slice A n c) rfl (by kernel_rfl) (by kernel_rfl) (by kernel_rfl) (by kernel_rfl) (fun _ _ _ h => h) (Or.inl ⟨by rfl, ?_⟩) hS ?_
  · rintro w' ⟨hS0, hS1⟩; go_simp
  simp only [Act.put, List.setIfInBounds_toArray, List.set_cons_zero, List.set_cons_succ]
  refine wpAnyL_take 5 _ (.string e.1) rfl (by kernel_rfl) (by kernel_rfl) (by kernel_rfl) (by kernel_rfl) (fun _ _ _ h => h) (Or.inl ⟨by rfl, ?_⟩) hS ?_
  · rintro w' ⟨hS0, hS1⟩; go_simp
  simp only [Act.put, List.setIfInBounds_toArray, List.set_cons_zero, List.set_cons_succ]
  clear hS
  refine wpAnyL_all [6] (by kernel_rfl) (by simp) ?_
  refine lateCons ?_ lateNil
  refine wpOpL_step _ rfl (fun K' hK => ?_)
  go_simp
  refine (hPl _ B0).mono ?_
  rintro eR u1 ⟨rfl, bp⟩
  have B1 := below_then B0 bp
  refine hK.out _ _ (fun _ => hSP _ B1) ?_
  clear hK K' bp B0
  try simp only [Act.put, List.setIfInBounds_toArray, List.set_cons_zero, List.set_cons_succ]
  refine wpAnyL_take 7 _ (.bool false) rfl (by kernel_rfl) (by kernel_rfl) (by kernel_rfl) (by kernel_rfl) (fun _ _ _ h => h) (Or.inl ⟨by rfl, ?_⟩) (hSP _ B1) ?_
  · rintro w' ⟨hS0, hS1⟩; go_simp
  simp only [Act.put, List.setIfInBounds_toArray, List.set_cons_zero, List.set_cons_succ]
  refine wpAnyL_done (by kernel_rfl) ?_ _
  dsimp only [NoPanic]
  have T3' := T3
  have X9 := HX3.out.keep (P := fun _ => False) (StepC.below T3 B1) (fun h => h)
  have y0 : u1.cell? ⟨G, 0, none⟩ = some (.string ⟨#[]⟩) := X9.cell 0 rfl
  have y1 : u1.cell? ⟨G, 1, none⟩ = some (.int .u64 0) := X9.cell 1 rfl
  have y3 : u1.cell? ⟨G, 2, none⟩ = some (.int .u64 0) := X9.cell 2 rfl
  have f0 := X9.free 0
  have f1 := X9.free 1
  have f2 := X9.free 2
  have X9q : ∀ q, BoxC col (u1.drewN q) G 0 (VE zeroE) 32 := fun q => ⟨X9.heap, X9.col⟩
  have HX := Lib.hid (fun q => (vbox_en (X9q q) (a := zeroE) zeroE).heap)
  have HBq : ∀ q, Below w.heap.size w ((((u1.drewN q).setCell ⟨G, 0, none⟩ (.string ⟨#[]⟩)).setCell ⟨G, 1, none⟩ (.int .u64 0)).setCell ⟨G, 2, none⟩ (.int .u64 0)) := fun q => (((below_drewN (below_then HBB.out B1) q).setCell (p := ⟨G, 0, none⟩) hGW (.string ⟨#[]⟩)).setCell (p := ⟨G, 1, none⟩) hGW (.int .u64 0)).setCell (p := ⟨G, 2, none⟩) hGW (.int .u64 0)
  have HD := Lib.hid (show ∀ q, DidRF col k w g t ((((u1.drewN q).setCell ⟨G, 0, none⟩ (.string ⟨#[]⟩)).setCell ⟨G, 1, none⟩ (.int .u64 0)).setCell ⟨G, 2, none⟩ (.int .u64 0)) from fun q => ⟨col, HH.out.below ht (HBq q), StepC.below ht (HBq q)⟩)
  have z0' : u1.cell? ⟨g, 0, none⟩ = some (.int .i64 2) := (cellB z0 B1).1
  have v1' : u1.cell? ⟨G5, 1, none⟩ = some (.int .u64 e.2.1) := (cellB v1 B1).1
  have v2' : u1.cell? ⟨G5, 2, none⟩ = some (.int .u64 e.2.2) := (cellB v2 B1).1
  have q1' : u1.cell? ⟨G8, 1, none⟩ = some (.int .u64 te.2.1) := (cellB q1 B1).1
  have q2' : u1.cell? ⟨G8, 2, none⟩ = some (.int .u64 te.2.2) := (cellB q2 B1).1
  have b3' : u1.cell? ⟨g, 3, none⟩ = some (.int .u64 t.base) := (cellB b3c B1).1
  clear z0 v1 v2 q1 q2 X9 X9q HBq HX3 HH HBB hPl y2 v0 B1 hG hG5 hGW b3c
  by_cases k0 : e.2.1 = 0
  · have d0 : (e.2.1 == 0) = true := beq_iff_eq.2 k0
    clear hr k0
    go_wp2
    go_quiet (fail)
    go_wp2
    refine bodyPost_ret (results_cell_row2 rfl _ _ G _ _ (0, 0) _ rfl (HX.out _) Try.underlying32 rfl (by kernel_rfl)) rfl ?_
    exact ⟨rfl, HD.out _⟩
  · have d0 : (e.2.1 == 0) = false := beq_false_of_ne k0
    by_cases k1 : e.2.1 > te.2.1
    · have d1 : decide (e.2.1 > te.2.1) = true := decide_eq_true k1
      clear hr k0
      go_wp2
      go_quiet (fail)
      go_wp2
      refine bodyPost_ret (results_cell_row2 rfl _ _ G _ _ (0, 0) _ rfl (HX.out _) Try.underlying32 rfl (by kernel_rfl)) rfl ?_
      exact ⟨rfl, HD.out _⟩
    · have d1 : decide (e.2.1 > te.2.1) = false := decide_eq_false k1
      have k2 : e.2.2 > t.base := by
        rcases hr with h | h | h
        · exact absurd h k0
        · exact absurd h k1
        · exact h
      have d2 : decide (e.2.2 > t.base) = true := decide_eq_true k2
      clear hr k0
      go_wp2
      go_quiet (fail)
      go_wp2
      refine bodyPost_ret (results_cell_row2 rfl _ _ G _ _ (0, 0) _ rfl (HX.out _) Try.underlying32 rfl (by kernel_rfl)) rfl ?_
      exact ⟨rfl, HD.out _⟩
end
end Go.Proofs.Ytgkokglngpbamaa
