/- The specified exact counters in memory: Take. Conditions: none beyond those typed. -/
import Derived.Test.YtjkomnjkolggnaaExref
import Derived.Deep.RegionHeld3
import Derived.Deep.CutRange
namespace Go.Proofs.Ytjkomnjkolggnaa
open Go.ChangeShapes Go.WideShapes Go.ChangeAt Go.RowKit
set_option linter.unusedVariables false
set_option linter.unusedSimpArgs false
set_option maxRecDepth 100000

section
variable {P : Nat → Prop} {col col' : Col} {w w' : World} {k g : Nat} {t : ExSt}
set_option maxHeartbeats 4000000 in
theorem rxTake (H : RefX col k w g t) (ht : Tidy col w) (s : ByteArray) :
    Calls Try.prog 21 #[.pointer (some ⟨g, 0, none⟩), .string s] w fun e w' => e = .returned (.tuple #[.agg (VE (t.get s).1), .bool (t.get s).2]) ∧ DidRX col k w g (t.take s) w' := by
  have b1 : Below w.heap.size w (w.alloc (.cells #[.string ⟨#[]⟩, .int .u64 0, .int .u64 0] 32)) := (Below.refl _ _).alloc (Nat.le_refl _) _
  have H1 := H.below ht b1
  have sA : StepC (Rng k) col w col (w.alloc (.cells #[.string ⟨#[]⟩, .int .u64 0, .int .u64 0] 32)) := StepC.below ht b1
  have ht1 := sA.tidy
  have X1 : BoxC col (w.alloc (.cells #[.string ⟨#[]⟩, .int .u64 0, .int .u64 0] 32)) w.heap.size 0 (VE zeroE) 32 := ⟨heap_alloc_new w _, ht _ (Nat.le_refl _)⟩
  obtain ⟨W1, hW1⟩ : ∃ W1, W1 = w.alloc (.cells #[.string ⟨#[]⟩, .int .u64 0, .int .u64 0] 32) := ⟨_, rfl⟩
  obtain ⟨G, hG⟩ : ∃ G, w.heap.size = G := ⟨_, rfl⟩
  rw [← hW1] at H1 X1 sA ht1 b1
  rw [hG] at X1
  have hGW : G ≤ W1.heap.size := by rw [← hG]; exact b1.size
  have hGt := rxGet H1 ht1 s
  have hk : 1 ≤ k := by obtain ⟨_, _, _, h⟩ := H; exact h.k1
  cases hp : placeE t.l s with
  | none =>
    have hV : t.get s = (zeroE, false) := by unfold ExSt.get; rw [hp]
    have hT : t.take s = t := by unfold ExSt.take; rw [hp]
    rw [hV] at hGt ⊢
    rw [hT]
    replace hGt : Calls Try.prog 22 #[.pointer (some ⟨g, 0, none⟩), .string s] W1 (fun e w' => e = .returned (.tuple #[.agg #[.string ⟨#[]⟩, .int .u64 0, .int .u64 0], .bool false]) ∧ Below W1.heap.size W1 w') := hGt
    go_enter Try.func21, Try.ntmps21
    go_wp2_with fail
    rw [← hW1]
    clear hW1
    refine hGt.mono ?_
    rintro e w2 ⟨rfl, b2⟩
    have b3 : Below W1.heap.size W1 (w2.alloc (.cells #[.string ⟨#[]⟩, .int .u64 0, .int .u64 0] 32)) := b2.alloc b2.size _
    have X3 : BoxC col (w2.alloc (.cells #[.string ⟨#[]⟩, .int .u64 0, .int .u64 0] 32)) G 0 (VE zeroE) 32 := X1.keep (P := fun _ => False) (StepC.below ht1 b3) (fun h => h)
    have y0 : (w2.alloc (.cells #[.string ⟨#[]⟩, .int .u64 0, .int .u64 0] 32)).cell? ⟨G, 0, none⟩ = some (.string ⟨#[]⟩) := X3.cell 0 rfl
    have y1 : (w2.alloc (.cells #[.string ⟨#[]⟩, .int .u64 0, .int .u64 0] 32)).cell? ⟨G, 1, none⟩ = some (.int .u64 0) := X3.cell 1 rfl
    have y3 : (w2.alloc (.cells #[.string ⟨#[]⟩, .int .u64 0, .int .u64 0] 32)).cell? ⟨G, 2, none⟩ = some (.int .u64 0) := X3.cell 2 rfl
    have n0 : (w2.alloc (.cells #[.string ⟨#[]⟩, .int .u64 0, .int .u64 0] 32)).cell? ⟨w2.heap.size, 0, none⟩ = some (.string ⟨#[]⟩) := (World.cell?_alloc_at (w := w2) _ _ _ _ rfl).trans rfl
    have n1 : (w2.alloc (.cells #[.string ⟨#[]⟩, .int .u64 0, .int .u64 0] 32)).cell? ⟨w2.heap.size, 1, none⟩ = some (.int .u64 0) := (World.cell?_alloc_at (w := w2) _ _ _ _ rfl).trans rfl
    have n2 : (w2.alloc (.cells #[.string ⟨#[]⟩, .int .u64 0, .int .u64 0] 32)).cell? ⟨w2.heap.size, 2, none⟩ = some (.int .u64 0) := (World.cell?_alloc_at (w := w2) _ _ _ _ rfl).trans rfl
    have f0 := X3.free 0
    have f1 := X3.free 1
    have f2 := X3.free 2
    have HX := Lib.hid (vbox_en X3 (a := zeroE) zeroE).heap
    have HB := (((below_then b1 b3).setCell (p := ⟨G, 0, none⟩) (by rw [hG]; exact Nat.le_refl _) (.string ⟨#[]⟩)).setCell (p := ⟨G, 1, none⟩) (by rw [hG]; exact Nat.le_refl _) (.int .u64 0)).setCell (p := ⟨G, 2, none⟩) (by rw [hG]; exact Nat.le_refl _) (.int .u64 0)
    have HD := Lib.hid (show DidRX col k w g t _ from ⟨col, H.below ht HB, StepC.below ht HB⟩)
    clear X1 X3 HB b3 b2 b1 hGt hG hGW H1 H sA
    go_wp2
    refine bodyPost_ret (results_cell_row2 rfl _ _ G _ _ (0, 0) _ rfl HX.out Try.underlying32 rfl (by kernel_rfl)) rfl ?_
    exact ⟨rfl, HD.out⟩
  | some i =>
    obtain ⟨e0, he0, -, hil⟩ := placeE_some hp
    have hV : t.get s = (e0, true) := by unfold ExSt.get; rw [hp]; show ((t.l[i]?).getD zeroE, true) = _; rw [he0]; rfl
    have hT : t.take s = { t with l := withoutE t.l i } := by unfold ExSt.take; rw [hp]
    have hGF := H.1.take s
    rw [hV] at hGt ⊢
    rw [hT] at hGF ⊢
    have hG6 : t.l.length ≤ 64 := by have := H.1.len; have := H.1.n1; omega
    go_enter Try.func21, Try.ntmps21
    go_wp2_with fail
    rw [← hW1]
    clear hW1
    refine hGt.mono ?_
    rintro e w2 ⟨rfl, b2⟩
    have b3 : Below W1.heap.size W1 (w2.alloc (.cells (VE e0) 32)) := b2.alloc b2.size _
    have X3 : BoxC col (w2.alloc (.cells (VE e0) 32)) G 0 (VE zeroE) 32 := X1.keep (P := fun _ => False) (StepC.below ht1 b3) (fun h => h)
    have X6 : BoxC col (w2.alloc (.cells (VE e0) 32)) w2.heap.size 0 (VE e0) 32 := ⟨heap_alloc_new w2 _, (ht1.size b2.size) _ (Nat.le_refl _)⟩
    have H3 := H1.below ht1 b3
    have T1 := ht1.size b3.size
    have s3 := sA.trans (StepC.below (P := Rng k) ht1 b3)
    obtain ⟨G6, hG6'⟩ : ∃ G6, w2.heap.size = G6 := ⟨_, rfl⟩
    rw [hG6'] at X6
    go_upto_region 3 with fail
    generalize hW3 : w2.alloc (.cells #[.string e0.1, .int .u64 e0.2.1, .int .u64 e0.2.2] 32) = W3 at *
    clear hW3 hG6' hGt
    obtain ⟨_, A, c, HB0⟩ := H3
    obtain ⟨n, hn⟩ : ∃ n, t.l.length = n := ⟨_, rfl⟩
    obtain ⟨b, rfl, _⟩ := HB0.row.own.head (by omega)
    have y1 : W3.cell? ⟨g, 1, none⟩ = some (.slice (some ⟨b, 0, none⟩) n c) := by rw [← hn]; exact HB0.box.cell 1 rfl
    have hRow := HB0.row.own.reads
    rw [hn] at hRow
    have hPl := fun (W : World) (hb : Below W3.heap.size W3 W) => place_any (hRow.below hb) (by omega) s
    unfold placeI at hPl
    rw [hp] at hPl
    have hWo := fun (W : World) (hb : Below W3.heap.size W3 W) => without_any (hRow.below hb) (by omega) (i := i) (by omega)
    have HB := Lib.hid HB0
    have hlw : (withoutE t.l i).length = n - 1 := by have := (without_at he0).1; omega
    have HL := Lib.hid hlw
    have X3' := Lib.hid X3
    have X6' := Lib.hid X6
    have HG := Lib.hid hGF
    have HS := Lib.hid s3
    clear HB0 hRow X3 X6 X1 H1 hGF hV hT hp he0 hlw s3 sA b3 b2 hil
    refine wp_region_noPanic ?_
    refine wp_region_late (fun w' => w'.cell? ⟨g, 1, none⟩ = some (.slice (some ⟨b, 0, none⟩) n c)) (fun j => [0, 1, 2, 3, 5, 6, 7, 9, 12, 13, 14].contains j) (by kernel_rfl) ?_
    intro u0 hu0
    have B0 : Below W3.heap.size W3 u0 := by rw [← hu0]; exact bdM _
    have hS : (fun w' => w'.cell? ⟨g, 1, none⟩ = some (.slice (some ⟨b, 0, none⟩) n c)) u0 := (cellB y1 B0).1
    clear hu0
    refine wpAnyL_takeY 0 _ (.pointer (some ⟨g, 0, none⟩)) rfl (by kernel_rfl) (by kernel_rfl) (by kernel_rfl) (by kernel_rfl) (fun _ _ _ h => h) (Or.inl ⟨by rfl, ?_⟩) ?_
    · intro w'; go_simp
    simp only [Act.put, List.setIfInBounds_toArray, List.set_cons_zero, List.set_cons_succ]
    refine wpAnyL_takeY 1 _ (.pointer (some ⟨g, 0, none⟩)) rfl (by kernel_rfl) (by kernel_rfl) (by kernel_rfl) (by kernel_rfl) (fun _ _ _ h => h) (Or.inl ⟨by rfl, ?_⟩) ?_
    · intro w'; go_simp
    simp only [Act.put, List.setIfInBounds_toArray, List.set_cons_zero, List.set_cons_succ]
    refine wpAnyL_takeY 2 _ (.pointer (some ⟨g, 0, none⟩)) rfl (by kernel_rfl) (by kernel_rfl) (by kernel_rfl) (by kernel_rfl) (fun _ _ _ h => h) (Or.inl ⟨by rfl, ?_⟩) ?_
    · intro w'; go_simp
    simp only [Act.put, List.setIfInBounds_toArray, List.set_cons_zero, List.set_cons_succ]
    refine wpAnyL_takeY 3 _ (.pointer (some ⟨g, 1, none⟩)) rfl (by kernel_rfl) (by kernel_rfl) (by kernel_rfl) (by kernel_rfl) (fun _ _ _ h => h) (Or.inl ⟨by rfl, ?_⟩) ?_
    · intro w'; go_simp
    simp only [Act.put, List.setIfInBounds_toArray, List.set_cons_zero, List.set_cons_succ]
    refine wpAnyL_takeY 5 _ (.pointer (some ⟨g, 0, none⟩)) rfl (by kernel_rfl) (by kernel_rfl) (by kernel_rfl) (by kernel_rfl) (fun _ _ _ h => h) (Or.inl ⟨by rfl, ?_⟩) ?_
    · intro w'; go_simp
    simp only [Act.put, List.setIfInBounds_toArray, List.set_cons_zero, List.set_cons_succ]
    refine wpAnyL_takeY 6 _ (.pointer (some ⟨g, 0, none⟩)) rfl (by kernel_rfl) (by kernel_rfl) (by kernel_rfl) (by kernel_rfl) (fun _ _ _ h => h) (Or.inl ⟨by rfl, ?_⟩) ?_
    · intro w'; go_simp
    simp only [Act.put, List.setIfInBounds_toArray, List.set_cons_zero, List.set_cons_succ]
    refine wpAnyL_takeY 7 _ (.pointer (some ⟨g, 1, none⟩)) rfl (by kernel_rfl) (by kernel_rfl) (by kernel_rfl) (by kernel_rfl) (fun _ _ _ h => h) (Or.inl ⟨by rfl, ?_⟩) ?_
    · intro w'; go_simp
    simp only [Act.put, List.setIfInBounds_toArray, List.set_cons_zero, List.set_cons_succ]
    refine wpAnyL_takeY 9 _ (.string s) rfl (by kernel_rfl) (by kernel_rfl) (by kernel_rfl) (by kernel_rfl) (fun _ _ _ h => h) (Or.inl ⟨by rfl, ?_⟩) ?_
    · intro w'; go_simp
    simp only [Act.put, List.setIfInBounds_toArray, List.set_cons_zero, List.set_cons_succ]
    refine wpAnyL_take 4 _ (.slice (some ⟨b, 0, none⟩) n c) rfl (by kernel_rfl) (by kernel_rfl) (by kernel_rfl) (by kernel_rfl) (fun _ _ _ h => h) (Or.inl ⟨by rfl, ?_⟩) hS ?_
    · intro w' hSw; go_simp
    simp only [Act.put, List.setIfInBounds_toArray, List.set_cons_zero, List.set_cons_succ]
    refine wpAnyL_take 8 _ (.slice (some ⟨b, 0, none⟩) n c) rfl (by kernel_rfl) (by kernel_rfl) (by kernel_rfl) (by kernel_rfl) (fun _ _ _ h => h) (Or.inl ⟨by rfl, ?_⟩) hS ?_
    · intro w' hSw; go_simp
    simp only [Act.put, List.setIfInBounds_toArray, List.set_cons_zero, List.set_cons_succ]
    clear hS
    refine wpAnyL_all [10] (by kernel_rfl) (by simp) ?_
    refine (lateCons ?_ lateNil)
    refine wpOpL_step _ rfl (fun K' hK => ?_)
    go_simp
    refine (hPl _ B0).mono ?_
    rintro e u1 ⟨rfl, bp⟩
    have B1 := below_then B0 bp
    refine hK.out _ _ (fun _ => (cellB y1 B1).1) ?_
    clear hK K' B0 bp
    try simp only [Act.put, List.setIfInBounds_toArray, List.set_cons_zero, List.set_cons_succ]
    refine wpAnyL_all [11] (by kernel_rfl) (by simp) ?_
    refine (lateCons ?_ lateNil)
    refine wpOpL_step _ rfl (fun K' hK => ?_)
    go_simp
    refine (hWo _ B1).mono ?_
    rintro e u2 ⟨A2, c2, rfl, O2, N2, bw⟩
    have B2 := below_then B1 bw
    refine hK.out _ _ (fun _ => (cellB y1 B2).1) ?_
    clear hK K' bw
    try simp only [Act.put, List.setIfInBounds_toArray, List.set_cons_zero, List.set_cons_succ]
    have f0 := (HB.out.below T1 B2).box.free 1
    have c0 := (cellB y1 B2).1
    refine wpAnyL_takeY 12 _ (.pointer (some ⟨g, 0, none⟩)) rfl (by kernel_rfl) (by kernel_rfl) (by kernel_rfl) (by kernel_rfl) (fun _ _ _ h => h) (Or.inl ⟨by rfl, ?_⟩) ?_
    · intro w'; go_simp
    simp only [Act.put, List.setIfInBounds_toArray, List.set_cons_zero, List.set_cons_succ]
    refine wpAnyL_takeY 13 _ (.pointer (some ⟨g, 1, none⟩)) rfl (by kernel_rfl) (by kernel_rfl) (by kernel_rfl) (by kernel_rfl) (fun _ _ _ h => h) (Or.inl ⟨by rfl, ?_⟩) ?_
    · intro w'; go_simp
    simp only [Act.put, List.setIfInBounds_toArray, List.set_cons_zero, List.set_cons_succ]
    refine wpAnyL_all [14] (by kernel_rfl) (by simp) ?_
    refine lateCons ?_ lateNil
    refine wpOpL_step _ rfl (fun K' hK => ?_)
    go_simp
    refine hK.out _ _ (fun h => absurd h (by decide)) ?_
    clear hK K'
    try simp only [Act.put, List.setIfInBounds_toArray, List.set_cons_zero, List.set_cons_succ]
    refine wpAnyL_done (by kernel_rfl) ?_ _
    dsimp only [NoPanic]
    obtain ⟨col5, M5, S5⟩ := HB.out.newRow T1 B2 HL.out O2 (fun q hq => Nat.le_trans B1.size (N2 q hq))
    have X9 := X3'.out.keep S5 (rng0 hk)
    have X10 := X6'.out.keep S5 (rng0 hk)
    have v0 : (u2.setCell ⟨g, 1, none⟩ (.slice A2 (n - 1) c2)).cell? ⟨G6, 0, none⟩ = some (.string e0.1) := X10.cell 0 rfl
    have v1 : (u2.setCell ⟨g, 1, none⟩ (.slice A2 (n - 1) c2)).cell? ⟨G6, 1, none⟩ = some (.int .u64 e0.2.1) := X10.cell 1 rfl
    have v2 : (u2.setCell ⟨g, 1, none⟩ (.slice A2 (n - 1) c2)).cell? ⟨G6, 2, none⟩ = some (.int .u64 e0.2.2) := X10.cell 2 rfl
    have g0 : (u2.setCell ⟨g, 1, none⟩ (.slice A2 (n - 1) c2)).cell? ⟨G, 0, none⟩ = some (.string ⟨#[]⟩) := X9.cell 0 rfl
    have g1 : (u2.setCell ⟨g, 1, none⟩ (.slice A2 (n - 1) c2)).cell? ⟨G, 1, none⟩ = some (.int .u64 0) := X9.cell 1 rfl
    have g2 : (u2.setCell ⟨g, 1, none⟩ (.slice A2 (n - 1) c2)).cell? ⟨G, 2, none⟩ = some (.int .u64 0) := X9.cell 2 rfl
    have gf0 := X9.free 0
    have gf1 := X9.free 1
    have gf2 := X9.free 2
    obtain ⟨colf, M6, S6⟩ := RefX.inNew (t := { t with l := withoutE t.l i }) ⟨HG.out, _, _, M5⟩ (HS.out.trans S5) X9.col (by omega) X9.lt e0
    have HD := Lib.hid (show DidRX col k w g { t with l := withoutE t.l i } _ from ⟨_, M6, S6⟩)
    have HX := Lib.hid (vbox_en X9 (a := zeroE) e0).heap
    clear M5 S5 X9 X10 M6 S6 O2 N2 B1 B2 hPl hWo f0 c0 y1
    go_wp2
    refine bodyPost_ret (results_cell_row2 rfl _ _ G _ _ (0, 0) _ rfl HX.out Try.underlying32 rfl (by kernel_rfl)) rfl ?_
    exact ⟨rfl, HD.out⟩
end
end Go.Proofs.Ytjkomnjkolggnaa
